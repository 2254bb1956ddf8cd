/- Parts of a proof. -/
import Derived.Test.YtipahfcaplbifaaGreatDoorZ01
import Derived.Laws.MakeOwn
set_option linter.unusedVariables false
set_option linter.unusedSimpArgs false
set_option maxHeartbeats 60000000
set_option maxRecDepth 100000
namespace Go.Proofs.YtipahfcaplbifaaGreatDoor
namespace Prp
open Go.RowKit
theorem nat_xor_one (x:Nat):x ^^^ 1=oth x:=by
 have h1:(x ^^^ 1) / 2=x / 2:=by rw[Nat.xor_div_two];simp
 have h2:(x ^^^ 1) % 2=(x+1) % 2:=by
  have h:=Nat.xor_mod_two_pow (a:=x) (b:=1) (n:=1)
  have e:x % 2=0∨x % 2=1:=by omega
  simp only[Nat.pow_one]at h
  rw[h]
  rcases e with e | e<;>rw[e]
  ·show 1=_;omega
  ·show 0=_;omega
 unfold oth
 split<;>omega
theorem bits_xor_one (x:Nat)(hx:x<1073741824):bits .xor .i64 (x:Int) 1=(oth x:Nat):=by
 have h2:x ^^^ 1=oth x:=nat_xor_one x
 have h3:oth x<1073741825:=by unfold oth;split<;>omega
 have e:(BitVec.ofInt 64 (x:Int) ^^^ BitVec.ofInt 64 1).toNat=oth x:=by
  have e1:BitVec.ofInt 64 (x:Int)=BitVec.ofNat 64 x:=by simp
  have e2:BitVec.ofInt 64 1=BitVec.ofNat 64 1:=by decide
  rw[e1,e2,BitVec.toNat_xor,BitVec.toNat_ofNat,BitVec.toNat_ofNat,Nat.mod_eq_of_lt (by omega)]
  exact h2
 have hw:IntKind.i64.wrap (oth x:Nat)=(oth x:Nat):=IntWalk.i64_in _ (by omega)
 show IntKind.i64.wrap ((BitVec.ofInt 64 (x:Int) ^^^ BitVec.ofInt 64 1).toNat:Int)=_
 rw[e,hw]
def Nums (B:Nat)(w:World)(a:Option Addr)(zs:List Int):Prop:=
 ∀i,i<zs.length→∃b off,a=some ⟨b,off,none⟩∧b<B∧w.cell? ⟨b,off+i,none⟩=some (.int .i64 (zs.getD i 0))
theorem Nums.mono {B B':Nat}{w:World}{a:Option Addr}{l:List Int}(h:Nums B w a l)(hb:B≤B'):Nums B' w a l:=fun i hi=>by
 obtain⟨b,off,ha,hlt,h1⟩:=h i hi
 exact⟨b,off,ha,Nat.lt_of_lt_of_le hlt hb,h1⟩
theorem Nums.below {B:Nat}{w w':World}{a:Option Addr}{l:List Int}(h:Nums B w a l)(hb:Below B w w'):Nums B w' a l:=fun i hi=>by
 obtain⟨b,off,ha,hlt,h1⟩:=h i hi
 exact⟨b,off,ha,hlt,by rw[hb.cell (p:=⟨b,_,none⟩) hlt];exact h1⟩
def CLies (B:Nat)(w:World)(a:Option Addr)(cs:List (List Int)):Prop:=
 ∀i,i<cs.length→∃b off ta tcap,a=some ⟨b,off,none⟩∧b<B∧w.cell? ⟨b,off+i,none⟩=some (.slice ta (cs.getD i []).length tcap)∧Nums B w ta (cs.getD i [])
theorem CLies.mono {B B':Nat}{w:World}{a:Option Addr}{cs:List (List Int)}(h:CLies B w a cs)(hb:B≤B'):CLies B' w a cs:=fun i hi=>by
 obtain⟨b,off,ta,tcap,ha,hlt,h1,h2⟩:=h i hi
 exact⟨b,off,ta,tcap,ha,Nat.lt_of_lt_of_le hlt hb,h1,h2.mono hb⟩
theorem CLies.below {B:Nat}{w w':World}{a:Option Addr}{cs:List (List Int)}(h:CLies B w a cs)(hb:Below B w w'):CLies B w' a cs:=fun i hi=>by
 obtain⟨b,off,ta,tcap,ha,hlt,h1,h2⟩:=h i hi
 exact⟨b,off,ta,tcap,ha,hlt,by rw[hb.cell (p:=⟨b,_,none⟩) hlt];exact h1,h2.below hb⟩
structure Ctx (n:Nat)(cs:List (List Int))(ls:List Int):Prop where
 sane:Sane n cs ls
 hn:n≤8192
 hm:cs.length≤16384
 hk:∀c,c∈cs→c.length≤131072
structure St (B n:Nat)(cs:List (List Int))(ls:List Int)(p:FolS)(w:World)(A Wd H T S:Nat→Int)(Q:List Int)(L:Int→List Nat)(R:List Nat):Prop where
 fol:Fol B n cs.length p w A Wd H T S Q
 asg:Asg n cs ls A Q
 wat:Wat cs n A Q Wd H T S L R
 qb:Q.length+zeros A n≤n
 cl:CLies B w p.ca cs
structure Rest (cs:List (List Int))(n:Nat)(A:Nat→Int)(Q:List Int)(Wd T:Nat→Int)(d cur:Int)(R:List Nat):Prop where
 ch:Ch T cur R
 nd:R.Nodup
 mem:∀y,y∈R→isW cs y∧Wd y=d
 dr:inR n d
 f:va A d= -1
 dd:dead A Q d
def Grow (A A':Nat→Int):Prop:=∀l:Int,l≠0→va A l=1→va A' l=1
theorem Grow.refl (A:Nat→Int):Grow A A:=fun _ _ h=>h
theorem Grow.trans {A B C:Nat→Int}(h:Grow A B)(k:Grow B C):Grow A C:=fun l h0 h1=>k l h0 (h l h0 h1)
def LookEnd (B n:Nat)(cs:List (List Int))(ls:List Int)(p:FolS)(A T:Nat→Int)(Q:List Int)(d:Int)(x:Nat)(R:List Nat)(w:World)(e:Ending)(w':World):Prop:=
 Below B w w'∧((e= .returned (.bool false)∧Conf cs ls)∨(e= .returned (.bool true)∧∃A' Wd' H' T' S' Q' L',St B n cs ls p w' A' Wd' H' T' S' Q' L' R∧Rest cs n A' Q' Wd' T' d (T x) R∧Grow A A'∧Q'.length+zeros A' n=Q.length+zeros A n))
section
variable {B n:Nat} {cs:List (List Int)} {ls:List Int} {p:FolS} {w w':World} {A Wd H T S:Nat→Int} {Q:List Int} {L:Int→List Nat} {R:List Nat} {d:Int} {x:Nat}
theorem Rest.next (h:Rest cs n A Q Wd T d x (x :: R)):Rest cs n A Q Wd T d (T x) R:=
 ⟨h.ch.2,(List.nodup_cons.1 h.nd).2,fun y hy=>h.mem y (List.mem_cons_of_mem _ hy),h.dr,h.f,h.dd⟩
theorem look_true (h:St B n cs ls p w A Wd H T S Q L (x :: R))(hr:Rest cs n A Q Wd T d x (x :: R))(ho:va A (Wd (oth x))=1):LookEnd B n cs ls p A T Q d x R w (.returned (.bool true)) w:=
 ⟨Below.refl _ _,.inr ⟨rfl,A,Wd,H,T,S,Q,L,⟨h.fol,h.asg,h.wat.drop ho,h.qb,h.cl⟩,hr.next,Grow.refl _,rfl⟩⟩
theorem look_move (hs:Sane n cs ls)(h:St B n cs ls p w A Wd H T S Q L (x :: R))(hr:Rest cs n A Q Wd T d x (x :: R)){c:List Int}{m:Nat}(hc:cs[x / 2]? =some c)(hm:m<c.length)
 (hx1:c.getD m 0≠Wd (oth x)) (hx2:0≤va A (c.getD m 0)) (hk:∀k,k<m→c.getD k 0=Wd (2*(x / 2))∨c.getD k 0=Wd (2*(x / 2)+1)∨va A (c.getD k 0)= -1)
 (hf:Fol B n cs.length p w' A (upd Wd x (c.getD m 0)) (upd H (place (c.getD m 0)) x) (upd T x (H (place (c.getD m 0)))) (upd S (x / 2) (m+1:Nat)) Q) (hb:Below B w w'):LookEnd B n cs ls p A T Q d x R w (.returned (.bool true)) w':=by
 have hx:=hr.mem x List.mem_cons_self
 have hxR:=(List.nodup_cons.1 hr.nd).1
 obtain⟨L',hW⟩:=h.wat.move hs hxR hx.1 (by rw[hx.2];exact hr.f) (by rw[hx.2];exact hr.dd) hc hm hx1 hx2 hk
 have hn:=hr.next
 exact⟨hb,.inr ⟨rfl,A,_,_,_,_,Q,L',⟨hf,h.asg,hW,h.qb,h.cl.below hb⟩,⟨hn.ch.upd hxR,hn.nd,fun y hy=>⟨(hn.mem y hy).1,by rw[upd_ne (fun e=>hxR (by rw[←e];exact hy))];exact(hn.mem y hy).2⟩,hn.dr,hn.f,hn.dd⟩,Grow.refl _,rfl⟩⟩
theorem look_make (hs:Sane n cs ls)(h:St B n cs ls p w A Wd H T S Q L (x :: R))(hr:Rest cs n A Q Wd T d x (x :: R)){c:List Int}(hc:cs[x / 2]? =some c)
 (hk:∀k,k<c.length→c.getD k 0=Wd (2*(x / 2))∨c.getD k 0=Wd (2*(x / 2)+1)∨va A (c.getD k 0)= -1) (hno:va A (Wd (oth x))≤0)
 {w1:World} (hb1:Below B w w1) {e:Ending} (hm:MakeEnd B n cs.length p A Wd H T (upd S (x / 2) (c.length:Nat)) Q (Wd (oth x)) w1 e w'):LookEnd B n cs ls p A T Q d x R w e w':=by
 have hx:=hr.mem x List.mem_cons_self
 have hxR:=(List.nodup_cons.1 hr.nd).1
 obtain⟨r1,r2,r3,_⟩:=act_inR hs h.wat hx.1
 have hder:Der cs ls (Wd (oth x)):=h.wat.rule hs h.asg hx.1 hc (by rw[hx.2];exact hr.f) hk
 obtain⟨he,hb2,hm1,hm2⟩:=hm
 refine⟨hb1.trans hb2, ?_⟩
 have ht:=va_tri h.asg.tri (Wd (oth x))
 have hS:Wat cs n A Q Wd H T (upd S (x / 2) (c.length:Nat)) L (x :: R):=h.wat.seen hc (Nat.le_refl _) hk
 by_cases h0:va A (Wd (oth x))=0
 ·have hf:=hm2 h0
  rw[h0]at he
  have hz:=zeros_make r2 h0
  have hn:=hr.next
  have hmo:=fun y (hy:y≠0)=>va_mono r2.1 hy h0
  refine .inr ⟨he,setL A (Wd (oth x)),Wd,H,T,_,_,L,⟨hf,h.asg.make r2 h0 hder, ?_, ?_,h.cl.below (hb1.trans hb2)⟩,⟨hn.ch,hn.nd,hn.mem,hn.dr,(hmo _ hn.dr.1).2 hn.f,(dead_make h.asg r2.1 h0 hn.dr.1).2 hn.dd⟩,fun l hl hv=>(hmo l hl).1 hv, ?_⟩
  ·exact(hS.make hs h.asg r2 h0).drop (by rw[va_setL r2.1 r2.1,if_pos rfl])
  ·have:=h.qb;rw[List.length_append,List.length_singleton];omega
  ·rw[List.length_append,List.length_singleton];omega
 ·have h1:va A (Wd (oth x))= -1:=by omega
  rw[h1]at he
  exact .inl ⟨he,.inr ⟨_,hder,h.asg.snd _ r2.neg (by rw[va_neg r2.1,h1];decide)⟩⟩
end
end Prp
namespace Prp
open Go.RowKit
theorem St.below {B n:Nat}{cs:List (List Int)}{ls:List Int}{p:FolS}{w w':World}{A Wd H T S:Nat→Int}{Q:List Int}{L:Int→List Nat}{R:List Nat}(h:St B n cs ls p w A Wd H T S Q L R)(hb:Below w.heap.size w w')(hB:B≤w.heap.size):St B n cs ls p w' A Wd H T S Q L R:=
 ⟨h.fol.below hb,h.asg,h.wat,h.qb,h.cl.below (hb.mono hB)⟩
theorem LookEnd.from {B n:Nat}{cs:List (List Int)}{ls:List Int}{p:FolS}{A T:Nat→Int}{Q:List Int}{d:Int}{x:Nat}{R:List Nat}{w w1 w':World}{e:Ending}(hb:Below B w w1)(h:LookEnd B n cs ls p A T Q d x R w1 e w'):LookEnd B n cs ls p A T Q d x R w e w':=⟨hb.trans h.1,h.2⟩
theorem look_any {B n:Nat}{cs:List (List Int)}{ls:List Int}{p:FolS}{w:World}{A Wd H T S:Nat→Int}{Q:List Int}{L:Int→List Nat}{R:List Nat}{d:Int}{x:Nat}(hx:Ctx n cs ls)(h:St B n cs ls p w A Wd H T S Q L (x :: R))(hr:Rest cs n A Q Wd T d x (x :: R))(hB:B≤w.heap.size):
 Calls Tryz.prog 140 #[.pointer (some ⟨p.F,0,none⟩),.int .i64 x] w (LookEnd B n cs ls p A T Q d x R w):=by
 obtain⟨c,hc,hact⟩:=(hr.mem x List.mem_cons_self).1
 obtain⟨r1,r2,r3,_⟩:=act_inR hx.sane h.wat (hr.mem x List.mem_cons_self).1
 have hd:Below w.heap.size w w.drew:=(Below.refl _ w).drew
 have h':=h.below hd hB
 have c2:=h.fol.c2
 have hcm:c∈cs:=List.mem_of_getElem? hc
 have hil:x / 2<cs.length:=(List.getElem?_eq_some_iff.1 hc).1
 have hm:=hx.hm
 have hck:=hx.hk c hcm
 have hcg:cs.getD (x / 2) []=c:=by rw[List.getD_eq_getElem?_getD,hc];rfl
 have hox:oth x<2*cs.length:=by have:=oth_div x;omega
 have hxm:x<2*cs.length:=by omega
 have aw:=h.fol.aW _ hox
 have c0:=h'.fol.c0
 have c5:=h'.fol.c5
 have as0:=h'.fol.aS _ hil
 obtain⟨t1,t2,t3,t4,t5,t6⟩:=h.wat.two _ c hc hact
 obtain⟨b,off,ta,tcap,hca,hblt,ccell,cnums⟩:=h'.cl _ hil
 rw[hcg]at ccell cnums
 have HVO:=Lib.hid (value_any h'.fol h'.asg.tri r2 hx.hn)
 have HV:=Lib.hid (fun l (hl:inR n l)=>value_any h'.fol h'.asg.tri hl hx.hn)
 have HCR:=Lib.hid (hx.sane.hc c hcm)
 have HTRI:=Lib.hid (va_tri h.asg.tri)
 have HTR:=Lib.hid (fun(ho:va A (Wd (oth x))=1)=>LookEnd.from (hd.mono hB) (look_true h' hr ho))
 have HMV:Hid (∀m,m<c.length→c.getD m 0≠Wd (oth x)→0≤va A (c.getD m 0)→(∀k,k<m→c.getD k 0=Wd (2*(x / 2))∨c.getD k 0=Wd (2*(x / 2)+1)∨va A (c.getD k 0)= -1)→∀w':World,Fol B n cs.length p w' A (upd Wd x (c.getD m 0)) (upd H (place (c.getD m 0)) x) (upd T x (H (place (c.getD m 0)))) (upd S (x / 2) (m+1:Nat)) Q→Below B w.drew w'→LookEnd B n cs ls p A T Q d x R w (.returned (.bool true)) w'):=
  fun m hm h1 h2 hk w' hf hb=>LookEnd.from (hd.mono hB) (look_move hx.sane h' hr hc hm h1 h2 hk hf hb)
 have HMK:Hid ((∀k,k<c.length→c.getD k 0=Wd (2*(x / 2))∨c.getD k 0=Wd (2*(x / 2)+1)∨va A (c.getD k 0)= -1)→va A (Wd (oth x))≤0→∀(w1 w':World) (e:Ending),Below B w.drew w1→MakeEnd B n cs.length p A Wd H T (upd S (x / 2) (c.length:Nat)) Q (Wd (oth x)) w1 e w'→LookEnd B n cs ls p A T Q d x R w e w'):=
  fun hk hno w1 w' e hb1 hm=>LookEnd.from (hd.mono hB) (look_make hx.sane h' hr hc hk hno hb1 hm)
 have HWA:=Lib.hid (fun m (hm:m<c.length) (w1:World) (hf:Fol B n cs.length p w1 A Wd H T (upd S (x / 2) (m+1:Nat)) Q)=>watch_any hf (hx.sane.hc c hcm (c.getD m 0) (by rw[List.getD_eq_getElem?_getD,List.getElem?_eq_getElem hm];exact List.getElem_mem hm)) hx.hn hxm hx.hm)
 have HMA:=Lib.hid (fun(w1:World) (hf:Fol B n cs.length p w1 A Wd H T (upd S (x / 2) (c.length:Nat)) Q) (hB1:B≤w1.heap.size)=>make_any hf h.asg.tri r2 hx.hn (by have:=h.qb;have:=hx.hn;omega) hB1)
 have HSE:=Lib.hid (fun v=>h'.fol.setS hil v)
 have HSB:Hid (∀v,Below B w.drew (w.drew.setCell ⟨p.S,x / 2,none⟩ (.int .i64 v))):=fun v=>(Below.refl B w.drew).setCell (p:=⟨p.S,x / 2,none⟩) (h.fol.lo _ p.inS).1 _
 have HSC:Hid (w.drew.frozen? ⟨p.S,x / 2,none⟩=false):=h'.fol.fr _ p.inS _
 have hxor:=bits_xor_one x (by omega)
 have hdiv:((x:Int)).tdiv 2=((x / 2:Nat):Int):=rfl
 have hol:(oth x:Int)<(2*cs.length:Nat):=by omega
 have hil2:((x / 2:Nat):Int)<(cs.length:Nat):=by omega
 have hwo:=HTRI.out (Wd (oth x))
 have hox2:x % 2=0→Wd (oth x)=Wd (2*(x / 2)+1):=fun e=>by unfold oth;rw[if_pos e];congr 1;omega
 have hox1:x % 2=1→Wd (oth x)=Wd (2*(x / 2)):=fun e=>by unfold oth;rw[if_neg (by omega)];congr 1;omega
 generalize Wd (oth x)=o at hox1 hox2 aw HVO HTR HMV HMK HMA hwo r2 r3
 generalize oth x=ox at hxor hol aw hox c2
 have HB1:Hid (B≤w.drew.heap.size):=hB
 have hil3:Hid ((x:Int) / 2=((x / 2:Nat):Int)):=by show _=_;omega
 clear h hr hx hact hc hcg t1 t2 t3 h' hd
 go_enter Tryz.func140,Tryz.ntmps140
 go_wp2_with fail
 go_region
 rw[hil3.out]
 clear aw c2 hdiv hxor hil3
 generalize w.drew=w1 at HVO HV HTR HMV HMK HWA HMA HSE HSB HSC HB1 c0 c5 as0 ccell cnums⊢
 go_wp2_with fail
 refine HVO.out.mono ?_
 rintro e w' ⟨rfl,rfl⟩
 by_cases ho:va A o=1
 ·have HT:=Lib.hid (HTR.out ho)
  rw[ho]
  clear HTR HMV HMK HMA HWA HSE HSB HSC HV HVO
  go_wp2_with fail
  go_ret
  exact HT.out
 ·have hno:¬ 0<va A o:=by omega
  generalize hvo:va A o=vo at HVO hno
  have hno2:va A o≤0:=by omega
  clear HTR HVO hwo ho
  obtain⟨s0,hs0⟩:=Int.eq_ofNat_of_zero_le t4
  rw[hs0]at as0 t5 t6
  rw[Int.toNat_natCast]at t6
  have hsl:s0≤c.length:=by omega
  have T6:=Lib.hid t6
  have HCN:=Lib.hid cnums
  rw[hca]at c0
  clear t4 t5 hs0 t6 cnums hca
  generalize x / 2=i at*
  go_wp2_with fail
  go_loop [8] (fun k=>∃j:Nat,s0≤j∧j≤c.length∧k= .int .i64 j∧Hid (∀k,k<j→c.getD k 0=Wd (2*i)∨c.getD k 0=Wd (2*i+1)∨va A (c.getD k 0)= -1)) (fun k=>c.length - (intOf k).toNat)
  case atStart=>exact⟨s0,Nat.le_refl _,hsl,rfl,T6⟩
  case round=>
   obtain⟨j,hj0,hj,rfl,hk⟩:=hrel
   by_cases hlt:j<c.length
   ·obtain⟨b2,off2,rfl,hb2,n1⟩:=HCN.out j hlt
    have hmem:c.getD j 0∈c:=by rw[List.getD_eq_getElem?_getD,List.getElem?_eq_getElem hlt];exact List.getElem_mem hlt
    have HVJ:=Lib.hid (HV.out _ (HCR.out _ hmem))
    have HVT:=HTRI.out (c.getD j 0)
    have hstep:c.getD j 0=o∨va A (c.getD j 0)= -1→Hid (∀k,k<j+1→c.getD k 0=Wd (2*i)∨c.getD k 0=Wd (2*i+1)∨va A (c.getD k 0)= -1):=fun h k hk2=>by
     by_cases e:k=j
     ·subst e
      rcases h with h | h
      ·rcases Nat.mod_two_eq_zero_or_one x with e2 | e2
       ·exact .inr (.inl (h.trans (hox2 e2)))
       ·exact .inl (h.trans (hox1 e2))
      ·exact .inr (.inr h)
     ·exact hk.out k (by omega)
    have HM:=Lib.hid (HMV.out j hlt)
    have HW:=Lib.hid (HWA.out j hlt)
    clear hmem
    generalize c.getD j 0=y at n1 HVJ HVT hstep HM HW
    by_cases hy:y=o
    ·have HK:=hstep (.inl hy)
     clear hstep HM HW HVJ HVT
     subst hy
     go_wp2_with fail
     go_round
     case rel=>exact⟨j+1,by omega,by omega,by go_num,HK⟩
     case measure=>simp[intOf];omega
    ·by_cases hv:va A y= -1
     ·have HK:=hstep (.inr hv)
      rw[hv]at HVJ
      clear hstep HM HW HVT
      go_wp2_with fail
      refine HVJ.out.mono ?_
      rintro e w' ⟨rfl,rfl⟩
      go_wp2_with fail
      go_round
      case rel=>exact⟨j+1,by omega,by omega,by go_num,HK⟩
      case measure=>simp[intOf];omega
     ·have hv2:0≤va A y:=by omega
      have HM2:=Lib.hid (HM.out hy hv2 hk.out)
      generalize va A y=vy at HVJ hv2
      clear hstep HM HVT hv
      have HF:=Lib.hid (HSE.out ((j:Int)+1))
      have HBS:=Lib.hid (HSB.out ((j:Int)+1))
      have HW2:=Lib.hid (HW.out _ HF.out)
      have hsc:=HSC.out
      have n2:(w1.setCell ⟨p.S,i,none⟩ (.int .i64 ((j:Int)+1))).cell? ⟨b2,off2+j,none⟩=some (.int .i64 y):=(HBS.out.cell (p:=⟨b2,_,none⟩) hb2).trans n1
      go_wp2_with fail
      refine HVJ.out.mono ?_
      rintro e w' ⟨rfl,rfl⟩
      go_wp2_with fail
      refine HW2.out.mono ?_
      rintro e w' ⟨rfl,hf,hb⟩
      have HM3:=Lib.hid (HM2.out _ hf (HBS.out.trans hb))
      clear hf hb
      go_wp2_with fail
      go_ret
      exact HM3.out
   ·obtain rfl:j=c.length:=by omega
    have HF:=Lib.hid (HSE.out (c.length:Nat))
    have HBS:=Lib.hid (HSB.out (c.length:Nat))
    have HM9:=Lib.hid (HMA.out _ HF.out (by rw[World.size_setCell];exact HB1.out))
    have HK9:=Lib.hid (HMK.out hk.out hno2)
    have hsc:=HSC.out
    clear hk HMK HMA HMV HWA HV HTRI HCR
    go_wp2_with fail
    refine HM9.out.mono ?_
    rintro e w' ⟨rfl,hrest⟩
    have HR:=Lib.hid hrest
    clear hrest
    rw[hvo]at HR⊢
    go_wp2_with fail
    go_ret
    refine HK9.out _ _ _ HBS.out ⟨?_,by rw[hvo];exact HR.out⟩
    rw[hvo];rfl
end Prp
namespace Prp
open Go.RowKit
theorem least_ex {P:Nat→Prop}:∀k,P k→∃m,P m∧∀j,P j→m≤j:=fun k=>by
 induction k using Nat.strongRecOn with
 | _ k ih=>
   intro h
   by_cases e:∃j,j<k∧P j
   ·obtain⟨j,h1,h2⟩:=e
    exact ih j h1 h2
   ·exact⟨k,h,fun j hj=>Classical.byContradiction fun hn=>e ⟨j,by omega,hj⟩⟩
open Classical in
noncomputable def least (P:Nat→Prop):Nat:=if h:∃m,P m∧∀j,P j→m≤j then h.choose else 0
theorem least_spec {P:Nat→Prop}{k:Nat}(h:P k):P (least P)∧least P≤k:=by
 have he:=least_ex k h
 unfold least
 rw[dif_pos he]
 exact⟨he.choose_spec.1,he.choose_spec.2 k h⟩
def Jin (B n:Nat)(cs:List (List Int))(ls:List Int)(p:FolS)(w0:World)(A0:Nat→Int)(K0:Nat)(d:Int)(k:Nat)(cur:Value)(wr:World):Prop:=
 ∃z R A Wd H T S Q L,cur= .int .i64 z∧k=R.length∧St B n cs ls p wr A Wd H T S Q L R∧Rest cs n A Q Wd T d z R∧Grow A0 A∧Q.length+zeros A n=K0∧Below B w0 wr
def Jout (B n:Nat)(cs:List (List Int))(ls:List Int)(p:FolS)(w0:World)(A0:Nat→Int)(k:Nat)(wr:World):Prop:=
 ∃A Wd H T S Q L,k=Q.length+zeros A n∧St B n cs ls p wr A Wd H T S Q L []∧Grow A0 A∧Below B w0 wr
def RestEnd (B n:Nat)(cs:List (List Int))(ls:List Int)(p:FolS)(w:World)(e:Ending)(w':World):Prop:=
 Below B w w'∧((e= .returned (.bool false)∧Conf cs ls)∨(e= .returned (.bool true)∧∃A Wd H T S,Fol B n cs.length p w' A Wd H T S []∧FollowIs n cs ls false A))
theorem St.tail {B n:Nat}{cs:List (List Int)}{ls:List Int}{p:FolS}{w:World}{A Wd H T S:Nat→Int}{q:Int}{Q:List Int}{L:Int→List Nat}(h:St B n cs ls p w A Wd H T S (q :: Q) L []){v:Value}(hq:QRow B p.In w v Q):
 St B n cs ls p (w.setCell ⟨p.F,6,none⟩ v) A Wd H T S Q L (L (-q))∧Rest cs n A Q Wd T (-q) (H (place (-q))) (L (-q))∧inR n q:=by
 obtain⟨h1,h2,h3,h4,h5,h6⟩:=h.wat.deq h.asg
 have hqr:=(h.asg.qin q List.mem_cons_self).1
 have hb:Below B w (w.setCell ⟨p.F,6,none⟩ v):=(Below.refl _ _).setCell (p:=⟨p.F,6,none⟩) (h.fol.lo _ p.inF).1 _
 refine⟨⟨h.fol.setQ (fun _ _=>rfl) (Nat.le_refl _) hq,h.asg.deq,h1, ?_,h.cl.below hb⟩,⟨h2,h3,h4,hqr.neg,h5,h6⟩,hqr⟩
 have:=h.qb;simp only[List.length_cons]at this;omega
theorem rest_any {B n:Nat}{cs:List (List Int)}{ls:List Int}{p:FolS}{w:World}{A Wd H T S:Nat→Int}{Q:List Int}{L:Int→List Nat}(hx:Ctx n cs ls)(h:St B n cs ls p w A Wd H T S Q L [])(hB:B≤w.heap.size)(hls:∀l,l∈ls→va A l=1)(hun:∀c,c∈cs→¬act c→c≠[]∧va A (c.headD 0)=1):
 Calls Tryz.prog 122 #[.pointer (some ⟨p.F,0,none⟩)] w (RestEnd B n cs ls p w):=by
 have HX:=Lib.hid hx
 have HEND:Hid (∀A' Wd' H' T' S' L' w',St B n cs ls p w' A' Wd' H' T' S' [] L' []→Grow A A'→FollowIs n cs ls false A'):=fun A' Wd' H' T' S' L' w' h' hg=>h'.wat.ends hx.sane h'.asg
  (fun l hl=>hg l (hx.sane.hl l hl).1 (hls l hl)) (fun c hc ha=>⟨(hun c hc ha).1,hg _ (by
    have hne:=(hun c hc ha).1
    cases c with
    | nil=>exact absurd rfl hne
    | cons y r=>exact(hx.sane.hc _ hc y List.mem_cons_self).1) (hun c hc ha).2⟩)
 have HJ0:Hid (Jout B n cs ls p w A (Q.length+zeros A n) w):=⟨A,Wd,H,T,S,Q,L,rfl,h,Grow.refl _,Below.refl _ _⟩
 have HBS:Hid (∀w',Below B w w'→B≤w'.heap.size):=fun w' hb=>Nat.le_trans hB hb.size
 clear h hls hun hx hB
 go_enter Tryz.func122,Tryz.ntmps122
 go_wp2_with fail
 go_loopw [] (fun wr=>∃k,Jout B n cs ls p w A k wr) (fun wr=>least (fun k=>Jout B n cs ls p w A k wr))
 case atStart=>exact⟨_,HJ0.out⟩
 case round=>
  clear HJ0
  obtain⟨k1,hk1⟩:=hrel
  have hk:=(least_spec (P:=fun k=>Jout B n cs ls p w A k wr) hk1).1
  generalize hM:(least fun k=>Jout B n cs ls p w A k wr)=M at hk⊢
  clear hk1 k1 hM
  obtain⟨A1,W1,H1,T1,S1,Q1,L1,hM,hst,hgr,hbw⟩:=hk
  obtain⟨v6,c6,hq⟩:=hst.fol.c6
  obtain⟨ao,cap,rfl,_⟩:=hq.ex
  cases Q1 with
  | nil=>
    have HF:=Lib.hid (HEND.out _ _ _ _ _ _ _ hst hgr)
    have HL:=Lib.hid hst.fol
    have HB:=Lib.hid hbw
    simp only[List.length_nil]at c6
    clear hst hgr hq hbw hM HEND
    go_wp2_with fail
    go_ret
    exact⟨HB.out,.inr ⟨rfl,A1,W1,H1,T1,S1,HL.out,HF.out⟩⟩
  | cons q Q2=>
    obtain⟨b,off,rfl,hn1,hn2,qc,q1,q2⟩:=hq.tail
    simp only[List.length_cons]at c6 hM
    have hl2:(q :: Q2).length≤cap:=hn2
    simp only[List.length_cons]at hl2
    have hqn:=HX.out.hn
    have key:∀off',QRow B p.In wr (.slice (some ⟨b,off',none⟩) Q2.length (cap - 1)) Q2→Hid (St B n cs ls p (wr.setCell ⟨p.F,6,none⟩ (.slice (some ⟨b,off',none⟩) Q2.length (cap - 1))) A1 W1 H1 T1 S1 Q2 L1 (L1 (-q)))∧Hid (Rest cs n A1 Q2 W1 T1 (-q) (H1 (place (-q))) (L1 (-q)))∧inR n q∧Hid (Below B w (wr.setCell ⟨p.F,6,none⟩ (.slice (some ⟨b,off',none⟩) Q2.length (cap - 1)))):=fun off' hq'=>by
     obtain⟨t1,t2,t3⟩:=hst.tail hq'
     exact⟨t1,t2,t3,hbw.setCell (p:=⟨p.F,6,none⟩) (hst.fol.lo _ p.inF).1 _⟩
    have f6:=hst.fol.fr _ p.inF 6
    have HGR:=Lib.hid hgr
    have two:∃off',((cap=1∧off'=off)∨(¬cap=1∧off'=off+1))∧QRow B p.In wr (.slice (some ⟨b,off',none⟩) Q2.length (cap - 1)) Q2:=by
     by_cases hc:cap=1
     ·exact⟨off,.inl ⟨hc,rfl⟩,q2 (by omega)⟩
     ·exact⟨off+1,.inr ⟨hc,rfl⟩,q1⟩
    obtain⟨off',hoff,hq'⟩:=two
    obtain⟨HT1,HT2,t3,HBW⟩:=key off' hq'
    have hq1:=t3.2.1
    have hq2:=t3.2.2
    have hpl:=place_lt t3.neg
    have hw:IntKind.i64.wrap (-q)= -q:=IntWalk.i64_in _ (by omega)
    have HP:=Lib.hid (fun W=>place_any (-q) W (by omega))
    have c3:=HT1.out.fol.c3
    have a3:=HT1.out.fol.aH _ hpl
    clear hst hgr hq hbw q1 q2 t3 key hq'
    generalize H1 (place (-q))=z0 at HT2 a3
    generalize place (-q)=pl at a3 hpl HP
    have hpl2:(pl:Int)<(2*n+2:Nat):=by omega
    have HJ0:Hid (Jin B n cs ls p w A (Q2.length+zeros A1 n) (-q) (L1 (-q)).length (.int .i64 z0) (wr.setCell ⟨p.F,6,none⟩ (.slice (some ⟨b,off',none⟩) Q2.length (cap - 1)))):=
     ⟨z0,L1 (-q),A1,W1,H1,T1,S1,Q2,L1,rfl,rfl,HT1.out,HT2.out,HGR.out,rfl,HBW.out⟩
    clear HT1 HT2 HGR HBW
    have hM2:Hid (Q2.length+zeros A1 n<M):=by show _<_;omega
    generalize Q2.length+zeros A1 n=K0 at HJ0 hM2
    clear hM
    have hnil:cap=1→Q2=[]:=fun h=>List.eq_nil_of_length_eq_zero (by omega)
    rcases hoff with ⟨rfl,rfl⟩ | ⟨hc,rfl⟩
    all_goals
     first
     | (obtain rfl:=hnil rfl
        simp only[List.length_nil,Nat.zero_add,Nat.sub_self]at c3 a3 HJ0 c6)
     | skip
     clear hnil
     go_wp2_with fail
     refine(HP.out _).mono ?_
     rintro e w' ⟨rfl,rfl⟩
     go_wp2_with fail
     clear c3 a3 c6 f6 qc HP hw
     generalize wr.setCell ⟨p.F,6,none⟩ _=w5 at HJ0
     go_loopw [4] (fun cur wr=>∃k,Jin B n cs ls p w A K0 (-q) k cur wr) (fun cur wr=>least (fun k=>Jin B n cs ls p w A K0 (-q) k cur wr))
     case atStart=>exact⟨_,HJ0.out⟩
     case round=>
      clear HJ0
      obtain⟨k2,hk2⟩:=hrel
      have hk:=(least_spec (P:=fun k=>Jin B n cs ls p w A K0 (-q) k u4 wr) hk2).1
      generalize hMM:(least fun k=>Jin B n cs ls p w A K0 (-q) k u4 wr)=M2 at hk⊢
      have HMM:=Lib.hid hMM
      clear hk2 k2 hMM
      obtain⟨z,R,A2,W2,H2,T2,S2,Q3,L2,rfl,hR,st,rs,gr,hK,hb⟩:=hk
      cases R with
      | nil=>
        obtain rfl:z= -1:=rs.ch
        have HJ:Hid (Jout B n cs ls p w A (Q3.length+zeros A2 n) wr):=⟨A2,W2,H2,T2,S2,Q3,L2,rfl,st,gr,hb⟩
        rw[hK]at HJ
        clear st rs gr hK hb
        go_wp2_with fail
        go_roundw
        case rel=>exact⟨K0,HJ.out⟩
        case measure=>exact Nat.lt_of_le_of_lt (least_spec (P:=fun k=>Jout B n cs ls p w A k wr) HJ.out).2 hM2.out
      | cons x R=>
        obtain⟨rfl,_⟩:=rs.ch
        obtain⟨c,hc9,_⟩:=(rs.mem x List.mem_cons_self).1
        have hxl:x<2*cs.length:=by have:=(List.getElem?_eq_some_iff.1 hc9).1;omega
        have hxl2:(x:Int)<(2*cs.length:Nat):=by omega
        have hx1:¬((x:Int)= -1):=by omega
        have c4:=st.fol.c4
        have a4:=st.fol.aT x hxl
        have HLK0:=Lib.hid (look_any HX.out st rs (HBS.out _ hb))
        have e2:T2 x=T2 x:=rfl
        have HLK:Hid (Calls Tryz.prog 140 #[.pointer (some ⟨p.F,0,none⟩),.int .i64 x] wr fun e w'=>Below B wr w'∧((e= .returned (.bool false)∧Conf cs ls)∨(e= .returned (.bool true)∧∃A' Wd' H' T' S' Q' L',St B n cs ls p w' A' Wd' H' T' S' Q' L' R∧Rest cs n A' Q' Wd' T' (-q) (T2 x) R∧Grow A2 A'∧Q'.length+zeros A' n=Q3.length+zeros A2 n))):=HLK0.out
        clear HLK0 e2
        have HBB:=Lib.hid hb
        have HGR:=Lib.hid gr
        clear st rs gr hb hc9
        simp only[List.length_cons]at hR
        generalize T2 x=z2 at a4 HLK
        have HR2:Hid (R.length<M2):=by show _<_;omega
        have HPOS:Hid (∀w':World,Below B wr w'→Below B w w'):=fun w' hb'=>HBB.out.trans hb'
        have HNEXT:Hid (∀(w':World) (A' Wd' H' T' S':Nat→Int) (Q':List Int) (L':Int→List Nat),Below B wr w'→St B n cs ls p w' A' Wd' H' T' S' Q' L' R→Rest cs n A' Q' Wd' T' (-q) z2 R→Grow A2 A'→Q'.length+zeros A' n=Q3.length+zeros A2 n→Jin B n cs ls p w A K0 (-q) R.length (.int .i64 z2) w'):=
         fun w' A' Wd' H' T' S' Q' L' hb' hs' hr' hg' hk'=>⟨z2,R,A',Wd',H',T',S',Q',L',rfl,rfl,hs',hr',HGR.out.trans hg',hk'.trans hK,HBB.out.trans hb'⟩
        clear HGR HBB hR hK
        go_wp2_with fail
        refine HLK.out.mono ?_
        rintro e w' ⟨hb',⟨rfl,hcf⟩ | ⟨rfl,A',Wd',H',T',S',Q',L',h1,h2,h3,h4⟩⟩
        ·have HC:=Lib.hid hcf
         have HB9:=Lib.hid (HPOS.out _ hb')
         clear hcf hb' HLK HNEXT HPOS
         go_wp2_with fail
         go_ret
         exact⟨HB9.out,.inl ⟨rfl,HC.out⟩⟩
        ·have HJ:=Lib.hid (HNEXT.out w' A' Wd' H' T' S' Q' L' hb' h1 h2 h3 h4)
         clear h1 h2 h3 h4 hb' HLK HNEXT HPOS
         go_wp2_with fail
         go_roundw
         case rel=>exact⟨_,HJ.out⟩
         case measure=>exact Nat.lt_of_le_of_lt (least_spec (P:=fun k=>Jin B n cs ls p w A K0 (-q) k (.int .i64 z2) w') HJ.out).2 (by rw[HMM.out];exact HR2.out)
end Prp
namespace Prp
open Go.RowKit
section
variable {B n:Nat} {cs:List (List Int)} {ls:List Int} {p:FolS} {w w':World} {A Wd H T S:Nat→Int} {Q:List Int} {L:Int→List Nat} {R:List Nat}
def MadeEnd (B n:Nat)(cs:List (List Int))(ls:List Int)(p:FolS)(A Wd H T S:Nat→Int)(L:Int→List Nat)(R:List Nat)(l:Int)(w:World)(b:Bool)(w':World):Prop:=
 Below B w w'∧((b=false∧Conf cs ls)∨(b=true∧∃A' Q',St B n cs ls p w' A' Wd H T S Q' L R∧Grow A A'∧va A' l=1))
theorem St.made (hs:Sane n cs ls)(h:St B n cs ls p w A Wd H T S Q L R){l:Int}(hl:inR n l)(hd:Der cs ls l){e:Ending}(hm:MakeEnd B n cs.length p A Wd H T S Q l w e w'):∃b,e= .returned (.bool b)∧MadeEnd B n cs ls p A Wd H T S L R l w b w':=by
 obtain⟨he,hb,hm1,hm2⟩:=hm
 have ht:=va_tri h.asg.tri l
 by_cases h0:va A l=0
 ·have hf:=hm2 h0
  have hz:=zeros_make hl h0
  refine⟨true,by rw[he,h0];rfl,hb,.inr ⟨rfl,setL A l,Q ++ [l],⟨hf,h.asg.make hl h0 hd,h.wat.make hs h.asg hl h0, ?_,h.cl.below hb⟩,fun x hx hv=>(va_mono hl.1 hx h0).1 hv,by rw[va_setL hl.1 hl.1,if_pos rfl]⟩⟩
  have:=h.qb;rw[List.length_append,List.length_singleton];omega
 ·by_cases h1:va A l=1
  ·exact⟨true,by rw[he,h1];rfl,hb,.inr ⟨rfl,A,Q,⟨hm1 h0,h.asg,h.wat,h.qb,h.cl.below hb⟩,Grow.refl _,h1⟩⟩
  ·have h2:va A l= -1:=by omega
   exact⟨false,by rw[he,h2];rfl,hb,.inl ⟨rfl,.inr ⟨l,hd,h.asg.snd _ hl.neg (by rw[va_neg hl.1,h2];decide)⟩⟩⟩
theorem no_any (hx:Ctx n cs ls)(h:St B n cs ls p w A Wd H T S Q L R)(hg:p.gv= .pointer (some ⟨p.F,0,none⟩)){l:Int}(hl:inR n l)(hd:Der cs ls l)(hB:B≤w.heap.size):
 Calls Tryz.prog 137 #[.int .i64 l,.pointer (some ⟨p.G,0,none⟩)] w fun e w'=>∃b,e= .returned (.bool (!b))∧MadeEnd B n cs ls p A Wd H T S L R l w b w':=by
 have HM:=Lib.hid (make_any h.fol h.asg.tri hl hx.hn (by have:=h.qb;have:=hx.hn;omega) hB)
 have HMD:=Lib.hid (fun e w' hm=>h.made (e:=e) (w':=w') hx.sane hl hd hm)
 have cg:=h.fol.cg
 rw[hg]at cg
 clear h hd hx
 go_enter Tryz.func137,Tryz.ntmps137
 go_wp2_with fail
 refine HM.out.mono ?_
 intro e w' hm
 obtain⟨b,rfl,hb⟩:=HMD.out e w' hm
 have HB:=Lib.hid hb
 clear hm hb HM HMD
 go_wp2_with fail
 go_ret
 exact⟨b,rfl,HB.out⟩
def SomeEnd (B n:Nat)(cs:List (List Int))(ls:List Int)(p:FolS)(A Wd H T S:Nat→Int)(L:Int→List Nat)(w:World)(e:Ending)(w':World):Prop:=
 Below B w w'∧((e= .returned (.bool true)∧Conf cs ls)∨(e= .returned (.bool false)∧∃A' Q',St B n cs ls p w' A' Wd H T S Q' L []∧Grow A A'∧∀l,l∈ls→va A' l=1))
def Jsome (B n:Nat)(cs:List (List Int))(ls:List Int)(p:FolS)(A Wd H T S:Nat→Int)(L:Int→List Nat)(w:World)(k:Nat)(wr:World):Prop:=
 ∃A' Q',St B n cs ls p wr A' Wd H T S Q' L []∧Grow A A'∧(∀j,j<k→va A' (ls.getD j 0)=1)∧Below B w wr
theorem some_no (hx:Ctx n cs ls)(h:St B n cs ls p w A Wd H T S Q L [])(hg:p.gv= .pointer (some ⟨p.F,0,none⟩))(hB:B≤w.heap.size)(a:Option Addr)(k cap:Nat)(hk:ls.length=k)(hkm:k≤9223372036854775807)(hl:Nums B w a ls):
 Calls Tryz.prog 117 #[.slice a k cap,.func (.func 137) #[] #[.pointer (some ⟨p.G,0,none⟩)]] w (SomeEnd B n cs ls p A Wd H T S L w):=by
 have HX:=Lib.hid hx
 have HK:=Lib.hid hk
 have HL:=Lib.hid hl
 have HBS:Hid (∀w',Below B w w'→B≤w'.heap.size):=fun w' hb=>Nat.le_trans hB hb.size
 have HJ0:Hid (Jsome B n cs ls p A Wd H T S L w 0 w):=⟨A,Q,h,Grow.refl _,fun j hj=>absurd hj (Nat.not_lt_zero _),Below.refl _ _⟩
 have HNO:=Lib.hid (fun(A':Nat→Int) (Q':List Int) (W:World) (hs:St B n cs ls p W A' Wd H T S Q' L []) (l:Int) (hl:l∈ls) (hB':B≤W.heap.size)=>no_any hx hs hg (hx.sane.hl l hl) (.told hl) hB')
 clear h hx hk hl
 go_enter Tryz.func117,Tryz.ntmps117
 go_wp2_with fail
 go_loopw [9] (fun i wr=>∃j:Nat,j≤k∧i= .int .i64 j∧Hid (Jsome B n cs ls p A Wd H T S L w j wr)) (fun i _=>k - (intOf i).toNat)
 case atStart=>exact⟨0,Nat.zero_le _,rfl,HJ0⟩
 case round=>
  clear HJ0
  obtain⟨j,hj,rfl,hJ⟩:=hrel
  by_cases hlt:j<k
  ·obtain⟨A1,Q1,hst,hgr,hal,hbw⟩:=hJ.out
   obtain⟨b,off,rfl,hblt,c1⟩:=(HL.out.below hbw) j (by rw[HK.out];exact hlt)
   have hmem:ls.getD j 0∈ls:=by rw[List.getD_eq_getElem?_getD,List.getElem?_eq_getElem (by rw[HK.out];exact hlt)];exact List.getElem_mem _
   have HC:=Lib.hid (HNO.out A1 Q1 wr hst _ hmem (HBS.out _ hbw))
   have HNX:Hid (∀w' A2 Q2,Below B wr w'→St B n cs ls p w' A2 Wd H T S Q2 L []→Grow A1 A2→va A2 (ls.getD j 0)=1→Jsome B n cs ls p A Wd H T S L w (j+1) w'):=fun w' A2 Q2 hb hs hg2 hv=>
    ⟨A2,Q2,hs,hgr.trans hg2,fun i hi=>by
      by_cases e:i=j
      ·subst e;exact hv
      ·exact hg2 _ (by
        have hm2:ls.getD i 0∈ls:=by rw[List.getD_eq_getElem?_getD,List.getElem?_eq_getElem (by rw[HK.out];omega)];exact List.getElem_mem _
        exact(HX.out.sane.hl _ hm2).1) (hal i (by omega)),hbw.trans hb⟩
   have HBW:=Lib.hid hbw
   clear hst hgr hal hbw hJ hmem
   generalize ls.getD j 0=l at c1 HC HNX
   go_wp2_with (first | (go_at_call 137;refine HC.out.mono ?_))
   rintro e w' ⟨b9,rfl,hb',⟨rfl,hcf⟩ | ⟨rfl,A2,Q2,h1,h2,h3⟩⟩
   ·have HC9:=Lib.hid hcf
    have HB9:=Lib.hid (HBW.out.trans hb')
    clear hcf hb' HC HNX HNO
    go_wp2_with fail
    go_ret
    exact⟨HB9.out,.inl ⟨rfl,HC9.out⟩⟩
   ·have HJ9:=Lib.hid (HNX.out w' A2 Q2 hb' h1 h2 h3)
    clear h1 h2 h3 hb' HC HNX HNO
    go_wp2_with fail
    go_roundw
    case rel=>exact⟨j+1,by omega,by go_num,HJ9⟩
    case measure=>simp[intOf];omega
  ·obtain rfl:j=k:=by omega
   have HE:Hid (SomeEnd B n cs ls p A Wd H T S L w (.returned (.bool false)) wr):=by
    obtain⟨A1,Q1,hst,hgr,hal,hbw⟩:=hJ.out
    refine⟨hbw,.inr ⟨rfl,A1,Q1,hst,hgr,fun l hl=> ?_⟩⟩
    obtain⟨i,hi,rfl⟩:=List.getElem_of_mem hl
    have:=hal i (by rw[←HK.out];exact hi)
    rwa [List.getD_eq_getElem?_getD,List.getElem?_eq_getElem hi]at this
   clear hJ HNO
   go_wp2_with fail
   go_ret
   exact HE.out
def ToldEnd (B n:Nat)(cs:List (List Int))(ls:List Int)(p:FolS)(Wd H T S:Nat→Int)(L:Int→List Nat)(w:World)(e:Ending)(w':World):Prop:=
 Below B w w'∧((e= .returned (.bool false)∧Conf cs ls)∨(e= .returned (.bool true)∧∃A' Q',St B n cs ls p w' A' Wd H T S Q' L []∧(∀l,l∈ls→va A' l=1)∧∀c,c∈cs→¬act c→c≠[]∧va A' (c.headD 0)=1))
def Jtold (B n:Nat)(cs:List (List Int))(ls:List Int)(p:FolS)(Wd H T S:Nat→Int)(L:Int→List Nat)(w:World)(k:Nat)(wr:World):Prop:=
 ∃A' Q',St B n cs ls p wr A' Wd H T S Q' L []∧(∀l,l∈ls→va A' l=1)∧(∀j,j<k→¬act (cs.getD j [])→cs.getD j []≠[]∧va A' ((cs.getD j []).headD 0)=1)∧Below B w wr
theorem der_unit {c:List Int}(hc:c∈cs)(ha:¬act c)(hne:c≠[]):Der cs ls (c.headD 0):=by
 cases c with
 | nil=>exact absurd rfl hne
 | cons y r=>exact .rule hc List.mem_cons_self (fun x hx hne=>absurd ⟨x,hx,hne⟩ ha)
end
end Prp
namespace Prp
open Go.RowKit
def gd (p:FolS)(g:Nat):FolS:={ p with G:=g,gv:= .pointer (some ⟨p.F,0,none⟩) }
theorem told_any {B n:Nat}{cs:List (List Int)}{ls:List Int}{p:FolS}{w:World}{A Wd H T S:Nat→Int}{Q:List Int}{L:Int→List Nat}(hx:Ctx n cs ls)(h:St B n cs ls p w A Wd H T S Q L [])(hB:B≤w.heap.size)
 (hone:∀i c,cs[i]? =some c→¬act c→S i=c.length+1) (a:Option Addr) (k cap:Nat) (hk:ls.length=k) (hkm:k≤9223372036854775807) (hl:Nums B w a ls):
 Calls Tryz.prog 121 #[.pointer (some ⟨p.F,0,none⟩),.slice a k cap] w (ToldEnd B n cs ls (gd p w.heap.size) Wd H T S L w):=by
 have hb0:Below w.heap.size w (w.alloc (.cells #[.pointer (some ⟨p.F,0,none⟩)] 186)):=(Below.refl _ w).alloc (Nat.le_refl _) _
 have hst:St B n cs ls (gd p w.heap.size) (w.alloc (.cells #[.pointer (some ⟨p.F,0,none⟩)] 186)) A Wd H T S Q L []:=
  ⟨h.fol.guard hB _ _,h.asg,h.wat,h.qb,h.cl.below (hb0.mono hB)⟩
 have hB1:B≤(w.alloc (.cells #[.pointer (some ⟨p.F,0,none⟩)] 186)).heap.size:=Nat.le_trans hB hb0.size
 have HSM:=Lib.hid (some_no hx hst rfl hB1 a k cap hk hkm (hl.below (hb0.mono hB)))
 have HB0:Hid (Below B w (w.alloc (.cells #[.pointer (some ⟨p.F,0,none⟩)] 186))):=hb0.mono hB
 have HBS:Hid (∀w',Below B w w'→B≤w'.heap.size):=fun w' hb=>Nat.le_trans hB hb.size
 have HONE:=Lib.hid hone
 have HX:=Lib.hid hx
 have hm:=hx.hm
 have HNO:=Lib.hid (fun(A':Nat→Int) (Q':List Int) (W:World) (hs:St B n cs ls (gd p w.heap.size) W A' Wd H T S Q' L []) (l:Int) (hl:inR n l) (hd:Der cs ls l) (hB':B≤W.heap.size)=>no_any hx hs rfl hl hd hB')
 clear h hx hst hb0 hB1 hone hk hl
 have e2:(gd p w.heap.size).F=p.F:=rfl
 have e3:(gd p w.heap.size).G=w.heap.size:=rfl
 have e4:(gd p w.heap.size).gv= .pointer (some ⟨p.F,0,none⟩):=rfl
 generalize hgd:gd p w.heap.size=p' at HSM HNO e2 e3 e4⊢
 rw[e3]at HSM HNO
 clear hgd
 go_enter Tryz.func121,Tryz.ntmps121
 go_wp2_with fail
 refine HSM.out.mono ?_
 rintro e w1 ⟨hb1,⟨rfl,hcf⟩ | ⟨rfl,A1,Q1,hst,hgr,hal⟩⟩
 ·have HC9:=Lib.hid hcf
  have HB9:=Lib.hid (HB0.out.trans hb1)
  clear hcf hb1 HSM HNO
  go_wp2_with fail
  go_ret
  exact⟨HB9.out,.inl ⟨rfl,HC9.out⟩⟩
 ·have HB1:=Lib.hid (HB0.out.trans hb1)
  have HJ0:Hid (Jtold B n cs ls p' Wd H T S L w 0 w1):=⟨A1,Q1,hst,hal,fun j hj=>absurd hj (Nat.not_lt_zero _),HB1.out⟩
  have cg:=hst.fol.cg
  have c0:=hst.fol.c0
  rw[e3,e4]at cg
  rw[e2]at c0
  clear hst hgr hal hb1 HSM HB0
  generalize w.heap.size=g at*
  go_wp2_with fail
  clear cg c0
  go_loopw [17] (fun i wr=>∃j:Nat,j≤cs.length∧i= .int .i64 j∧Hid (Jtold B n cs ls p' Wd H T S L w j wr)) (fun i _=>cs.length - (intOf i).toNat)
  case atStart=>exact⟨0,Nat.zero_le _,rfl,HJ0⟩
  case round=>
   clear HJ0
   obtain⟨j,hj,rfl,hJ⟩:=hrel
   by_cases hlt:j<cs.length
   ·obtain⟨A2,Q2,hst,hal,hun,hbw⟩:=hJ.out
    obtain⟨b,off,ta,tcap,hca,hblt,cc,cn⟩:=hst.cl j hlt
    have cg:=hst.fol.cg
    have c5:=hst.fol.c5
    have a5:=hst.fol.aS j hlt
    rw[e3,e4]at cg
    rw[e2]at c5
    have hcj:cs[j]? =some (cs.getD j []):=by rw[List.getD_eq_getElem?_getD,List.getElem?_eq_getElem hlt];rfl
    have hmem:cs.getD j []∈cs:=List.mem_of_getElem? hcj
    have hcl:=HX.out.hk _ hmem
    have hjl:(j:Int)<(cs.length:Nat):=by omega
    have HNX:Hid (∀w' A3 Q3,Below B wr w'→St B n cs ls p' w' A3 Wd H T S Q3 L []→Grow A2 A3→(¬act (cs.getD j [])→cs.getD j []≠[]∧va A3 ((cs.getD j []).headD 0)=1)→Jtold B n cs ls p' Wd H T S L w (j+1) w'):=fun w' A3 Q3 hb hs hg hv=>
     ⟨A3,Q3,hs,fun l hl=>hg l (HX.out.sane.hl l hl).1 (hal l hl),fun i hi ha=>by
       by_cases e:i=j
       ·subst e;exact hv ha
       ·obtain⟨g1,g2⟩:=hun i (by omega) ha
        refine⟨g1,hg _ ?_ g2⟩
        have hm2:cs.getD i []∈cs:=by rw[List.getD_eq_getElem?_getD,List.getElem?_eq_getElem (show i<cs.length by omega)];exact List.getElem_mem _
        cases hc2:cs.getD i []with
        | nil=>exact absurd hc2 g1
        | cons y r=>rw[hc2]at hm2;exact(HX.out.sane.hc _ hm2 y List.mem_cons_self).1,hbw.trans hb⟩
    have HBW:=Lib.hid hbw
    have HT:=Lib.hid hst.wat.two
    have HST:=Lib.hid hst
    rw[hca]
    clear hal hun hbw hJ hst hca
    cases hc:cs.getD j []with
    | nil=>
      have HC9:Hid (Conf cs ls):= .inl (by rw[←hc];exact hmem)
      rw[hc]at cc
      simp only[List.length_nil]at cc
      clear HNX HNO HT HST cn
      go_wp2_with fail
      go_ret
      exact⟨HBW.out,.inl ⟨rfl,HC9.out⟩⟩
    | cons y r=>
      rw[hc]at cc cn hmem hcj HNX hcl
      have hrl:(y :: r).length=r.length+1:=rfl
      rw[hrl]at cc hcl
      by_cases ha:act (y :: r)
      ·have hS:=(HT.out j _ hcj ha).2.2.2.2.1
       rw[hrl]at hS
       have HJ9:=Lib.hid (HNX.out wr A2 Q2 (Below.refl _ _) HST.out (Grow.refl _) (fun hn=>absurd ha hn))
       clear HNX HNO HT HST cn ha hmem hc hcj
       generalize S j=s at a5 hS
       go_wp2_with fail
       go_roundw
       case rel=>exact⟨j+1,by omega,by go_num,HJ9⟩
       case measure=>simp[intOf];omega
      ·have hS:=HONE.out j _ hcj ha
       rw[hrl]at hS
       obtain⟨b2,off2,rfl,hb2,n1⟩:=cn 0 (by simp)
       have n1:wr.cell? ⟨b2,off2,none⟩=some (.int .i64 y):=n1
       have hyr:=HX.out.sane.hc _ hmem y List.mem_cons_self
       have HC:=Lib.hid (HNO.out A2 Q2 wr HST.out y hyr (der_unit (ls:=ls) hmem ha (by simp)) (HBS.out _ HBW.out))
       have hr0:(0:Int)<((r.length+1:Nat):Int):=by omega
       clear HNO HT HST cn ha hmem hc hcj hyr
       generalize S j=s at a5 hS
       go_wp2_with (first | (go_at_call 137;refine HC.out.mono ?_))
       rintro e w' ⟨b9,rfl,hb',⟨rfl,hcf⟩ | ⟨rfl,A3,Q3,h1,h2,h3⟩⟩
       ·have HC9:=Lib.hid hcf
        have HB9:=Lib.hid (HBW.out.trans hb')
        clear hcf hb' HC HNX
        go_wp2_with fail
        go_ret
        exact⟨HB9.out,.inl ⟨rfl,HC9.out⟩⟩
       ·have HJ9:=Lib.hid (HNX.out w' A3 Q3 hb' h1 h2 (fun _=>⟨by simp,h3⟩))
        clear h1 h2 h3 hb' HC HNX
        go_wp2_with fail
        go_roundw
        case rel=>exact⟨j+1,by omega,by go_num,HJ9⟩
        case measure=>simp[intOf];omega
   ·obtain rfl:j=cs.length:=by omega
    have HE:Hid (ToldEnd B n cs ls p' Wd H T S L w (.returned (.bool true)) wr):=by
     obtain⟨A2,Q2,hst,hal,hun,hbw⟩:=hJ.out
     refine⟨hbw,.inr ⟨rfl,A2,Q2,hst,hal,fun c hc ha=> ?_⟩⟩
     obtain⟨i,hi,rfl⟩:=List.getElem_of_mem hc
     have:=hun i hi
     rw[List.getD_eq_getElem?_getD,List.getElem?_eq_getElem hi]at this
     exact this ha
    clear hJ HNO
    go_wp2_with fail
    go_ret
    exact HE.out
end Prp
namespace Prp
open Go.RowKit
theorem run_make_ints (W:World)(z:Int)(n:Nat)(hz:z=n)(hn:n≤40000):(Instr.makeSlice 23 (.int .i64 z) (.int .i64 z)).run Tryz.prog W= .ok (.slice (some ⟨W.heap.size,0,none⟩) n n) (W.alloc (.cells (madeCells #[.int .i64 0] n) 3)):=by
 subst hz
 obtain⟨i0,hi,hz0,hz1,hz2⟩:=info_parts Tryz.infoInt
 have:=run_make (P:=Tryz.prog) W 23 3 i0 _ Tryz.underlying23 hi hz0 .i64 .i64 n n (by omega) (Int.le_refl _) (by rw[hz2];omega) (by omega)
 rw[hz1]at this
 simpa [Value.cells]using this
theorem heap_at (w:World)(o:Obj)(k:Nat):(w.alloc o).heap[k]? =if k=w.heap.size then some o else w.heap[k]? :=by
 by_cases h:k=w.heap.size
 ·rw[if_pos h,h];exact heap_alloc_new w o
 ·rw[if_neg h]
  by_cases h2:k<w.heap.size
  ·exact Below.heap_alloc w o k h2
  ·rw[Array.getElem?_eq_none (by simp;omega),Array.getElem?_eq_none (by omega)]
section
variable (w:World) (o1 o2 o3 o4 o5 o6:Obj)
theorem six1:((((((w.alloc o1).alloc o2).alloc o3).alloc o4).alloc o5).alloc o6).drew.heap[w.heap.size]? =some o1:=by
 have e:∀W:World,W.drew.heap=W.heap:=fun _=>rfl
 simp only[e,heap_at,World.size_alloc];repeat (first | rw[if_pos trivial] | rw[if_neg (by omega)])
theorem six2:((((((w.alloc o1).alloc o2).alloc o3).alloc o4).alloc o5).alloc o6).drew.heap[w.heap.size+1]? =some o2:=by
 have e:∀W:World,W.drew.heap=W.heap:=fun _=>rfl
 simp only[e,heap_at,World.size_alloc];repeat (first | rw[if_pos trivial] | rw[if_neg (by omega)])
theorem six3:((((((w.alloc o1).alloc o2).alloc o3).alloc o4).alloc o5).alloc o6).drew.heap[w.heap.size+1+1]? =some o3:=by
 have e:∀W:World,W.drew.heap=W.heap:=fun _=>rfl
 simp only[e,heap_at,World.size_alloc];repeat (first | rw[if_pos trivial] | rw[if_neg (by omega)])
theorem six4:((((((w.alloc o1).alloc o2).alloc o3).alloc o4).alloc o5).alloc o6).drew.heap[w.heap.size+1+1+1]? =some o4:=by
 have e:∀W:World,W.drew.heap=W.heap:=fun _=>rfl
 simp only[e,heap_at,World.size_alloc];repeat (first | rw[if_pos trivial] | rw[if_neg (by omega)])
theorem six5:((((((w.alloc o1).alloc o2).alloc o3).alloc o4).alloc o5).alloc o6).drew.heap[w.heap.size+1+1+1+1]? =some o5:=by
 have e:∀W:World,W.drew.heap=W.heap:=fun _=>rfl
 simp only[e,heap_at,World.size_alloc];repeat (first | rw[if_pos trivial] | rw[if_neg (by omega)])
theorem six6:((((((w.alloc o1).alloc o2).alloc o3).alloc o4).alloc o5).alloc o6).drew.heap[w.heap.size+1+1+1+1+1]? =some o6:=by
 have e:∀W:World,W.drew.heap=W.heap:=fun _=>rfl
 simp only[e,heap_at,World.size_alloc];repeat (first | rw[if_pos trivial] | rw[if_neg (by omega)])
theorem six_below:Below w.heap.size w ((((((w.alloc o1).alloc o2).alloc o3).alloc o4).alloc o5).alloc o6).drew:=by
 refine Below.drew (Below.alloc (Below.alloc (Below.alloc (Below.alloc (Below.alloc (Below.alloc (Below.refl _ w) ?_ _) ?_ _) ?_ _) ?_ _) ?_ _) ?_ _)<;>simp<;>omega
end
structure Begun (w wr:World)(a:Option Addr)(m cap n:Nat)(F I W H T S:Nat):Prop where
 hF:wr.heap[F]? =some (.cells #[.slice a m cap,.slice (some ⟨I,0,none⟩) (n+1) (n+1),.slice (some ⟨W,0,none⟩) (2*m) (2*m),.slice (some ⟨H,0,none⟩) (2*n+2) (2*n+2),.slice (some ⟨T,0,none⟩) (2*m) (2*m),.slice (some ⟨S,0,none⟩) m m,.slice none 0 0] 190 (0,0))
 hI:wr.heap[I]? =some (.cells (madeCells #[.int .i64 0] (n+1)) 3 (0,0))
 hW:wr.heap[W]? =some (.cells (madeCells #[.int .i64 0] (2*m)) 3 (0,0))
 hH:wr.heap[H]? =some (.cells (madeCells #[.int .i64 0] (2*n+2)) 3 (0,0))
 hT:wr.heap[T]? =some (.cells (madeCells #[.int .i64 0] (2*m)) 3 (0,0))
 hS:wr.heap[S]? =some (.cells (madeCells #[.int .i64 0] m) 3 (0,0))
 ne:(F≠I∧F≠W∧F≠H∧F≠T∧F≠S)∧(I≠W∧I≠H∧I≠T∧I≠S)∧(W≠H∧W≠T∧W≠S)∧(H≠T∧H≠S)∧T≠S
 lo:w.heap.size≤F∧w.heap.size≤I∧w.heap.size≤W∧w.heap.size≤H∧w.heap.size≤T∧w.heap.size≤S
 b:Below w.heap.size w wr
end Prp
end Go.Proofs.YtipahfcaplbifaaGreatDoor
