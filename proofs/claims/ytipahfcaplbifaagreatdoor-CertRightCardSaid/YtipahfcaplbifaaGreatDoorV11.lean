/- Parts of a proof. -/
import Derived.Test.YtipahfcaplbifaaGreatDoorV01
import Derived.Test.YtipahfcaplbifaaGreatDoorV02
import Derived.Test.YtipahfcaplbifaaGreatDoorV03
import Derived.Test.YtipahfcaplbifaaGreatDoorV04
import Derived.Test.YtipahfcaplbifaaGreatDoorV05
import Derived.Test.YtipahfcaplbifaaGreatDoorV06
import Derived.Test.YtipahfcaplbifaaGreatDoorV07
import Derived.Test.YtipahfcaplbifaaGreatDoorV08
import Derived.Test.YtipahfcaplbifaaGreatDoorV09
import Derived.Test.YtipahfcaplbifaaGreatDoorV10
import Derived.Test.YtipahfcaplbifaaGreatDoorQ02
import Derived.Test.YtipahfcaplbifaaGreatDoorQ22
import Derived.Test.YtipahfcaplbifaaGreatDoorQ17
import Derived.Test.YtipahfcaplbifaaGreatDoorRows
import Derived.ChangeSame
import Derived.ChangeVars
import Derived.JoinedOf
import Derived.RowKit
import Derived.RowKitTokens
import Derived.LaidLaws
import Derived.LaidHandle
import Derived.Stop.Joined
import Derived.BigQuiet
import Derived.Lib.LaidTab
import Derived.Lib.AppendIntMem
import Derived.Test.YtipahfcaplbifaaGreatDoorQ15
set_option linter.unusedVariables false
set_option linter.unusedSimpArgs false
set_option maxHeartbeats 60000000
set_option maxRecDepth 100000
namespace Go.Proofs.YtipahfcaplbifaaGreatDoor
section
open Go.ChangeShapes Go.WideShapes Go.ChangeAt Go.RowKit
theorem Tryz.own:ownKnob Tryz.prog.godebug=none:=by kernel_rfl
theorem Tryz.laidOut:laidOutB Tryz.prog=true:=by kernel_rfl
def laidT:List (String×DataW Unit):=[("math/bits.deBruijn32tab",Rows.laid_math_bits_deBruijn32tab),("math/bits.deBruijn64tab",Rows.laid_math_bits_deBruijn64tab),("internal/strconv.uint64pow10",Rows.laid_internal_strconv_uint64pow10)]
def laidE:List (String×DataW Unit):=[("errors.errorType",Rows.laid_errors_errorType)]
def laidL:List (String×DataW Unit):=laidT ++ laidE
theorem Tryz.gTab:Tryz.prog.globalNamed "internal/strconv.uint64pow10" =some 1:=by kernel_rfl
theorem Tryz.gTabType:(Tryz.prog.globals[1]?).map (·.type)=some 235:=by kernel_rfl
theorem Tryz.cellsTab:Tryz.prog.cellsOf 235=20:=by kernel_rfl
theorem Tryz.cellsU64:Tryz.prog.cellsOf 217=1:=by kernel_rfl
theorem Tryz.et:Tryz.prog.globalNamed "errors.errorType" =some 0:=by kernel_rfl
theorem Tryz.rt:(Tryz.prog.cutTypes.find? (·.1 == "internal/reflectlite.rtype")).map (·.2)=some 162:=by kernel_rfl
theorem Tryz.oneRow:((List.range 276).filter fun t=>Tryz.prog.rowNamed t [101,114,114,111,114])=[26]:=by kernel_rfl
theorem Tryz.size:Tryz.prog.types.size=276:=by kernel_rfl
theorem laid_tail {P:Program}{x:String×DataW Unit}{l:List (String×DataW Unit)}{w:World}(h:laidMet P (x :: l) w):laidMet P l w:=by
 obtain⟨ps,h1,h2,h3⟩:=h
 obtain⟨g,t,cs,fuel,p,q,_,_,_,_,h4,rfl⟩:=h1
 exact⟨q,h4,(List.nodup_append.1 h2).2.1,fun b off hb=>h3 b off (List.mem_append.2 (.inr hb))⟩
theorem laid_parts {W:World}(h:laidMetH Tryz.prog laidL W):laidMet Tryz.prog laidT W∧handlesMet Tryz.prog laidE W:=h
theorem tens_of_laid {W:World}(h:laidMetH Tryz.prog laidL W):Tens W.heap.size W:=by
 have h':=(laid_parts h).1
 exact Lib.tabBelow_of_tabIs (Lib.tabIs_of_head (rest:=[]) Tryz.gTab Tryz.gTabType Tryz.underlying235 Tryz.underlying217 Tryz.cellsU64 Tryz.cellsTab (laid_tail (laid_tail h')))
theorem handle_of_laid {W:World}(h:laidMetH Tryz.prog laidL W):Prp.Laid0 W:=by
 obtain⟨name,u,ty,e1,e2,e3,e4,e5⟩:=(laid_parts h).2 _ (List.mem_singleton.2 rfl)
 have en:name=[101,114,114,111,114]:=(Option.some.inj e1).symm
 subst en
 obtain rfl:=Option.some.inj (Tryz.rt.symm.trans e2)
 have hm:ty∈(List.range 276).filter fun t=>Tryz.prog.rowNamed t [101,114,114,111,114]:=List.mem_filter.2 ⟨List.mem_range.2 (by rw[←Tryz.size];exact e3),e4⟩
 rw[Tryz.oneRow]at hm
 obtain rfl:=List.mem_singleton.1 hm
 have hh:typeHandle Tryz.prog 26= .pointer (some ⟨4,26,none⟩):=by kernel_rfl
 rw[hh]at e5
 unfold Prp.Laid0
 simpa using World.var?_cell Tryz.et e5 0
noncomputable def laidWorld (os:Os):World:=
 let w0:=World.holding Tryz.prog os ⟨#[], #[],[]⟩
 { w0 with heap:=(((w0.heap.modify 2 fun
    | .cells _ t frozen=> .cells #[.int .u8 0,.int .u8 1,.int .u8 28,.int .u8 2,.int .u8 29,.int .u8 14,.int .u8 24,.int .u8 3,.int .u8 30,.int .u8 22,.int .u8 20,.int .u8 15,.int .u8 25,.int .u8 17,.int .u8 4,.int .u8 8,.int .u8 31,.int .u8 27,.int .u8 13,.int .u8 23,.int .u8 21,.int .u8 19,.int .u8 16,.int .u8 7,.int .u8 26,.int .u8 12,.int .u8 18,.int .u8 6,.int .u8 11,.int .u8 5,.int .u8 10,.int .u8 9] t frozen
    | o=>o).modify 3 fun
    | .cells _ t frozen=> .cells #[.int .u8 0,.int .u8 1,.int .u8 56,.int .u8 2,.int .u8 57,.int .u8 49,.int .u8 28,.int .u8 3,.int .u8 61,.int .u8 58,.int .u8 42,.int .u8 50,.int .u8 38,.int .u8 29,.int .u8 17,.int .u8 4,.int .u8 62,.int .u8 47,.int .u8 59,.int .u8 36,.int .u8 45,.int .u8 43,.int .u8 51,.int .u8 22,.int .u8 53,.int .u8 39,.int .u8 33,.int .u8 30,.int .u8 24,.int .u8 18,.int .u8 12,.int .u8 5,.int .u8 63,.int .u8 55,.int .u8 48,.int .u8 27,.int .u8 60,.int .u8 41,.int .u8 37,.int .u8 16,.int .u8 46,.int .u8 35,.int .u8 44,.int .u8 21,.int .u8 52,.int .u8 32,.int .u8 23,.int .u8 11,.int .u8 54,.int .u8 26,.int .u8 40,.int .u8 15,.int .u8 34,.int .u8 20,.int .u8 31,.int .u8 10,.int .u8 25,.int .u8 14,.int .u8 19,.int .u8 9,.int .u8 13,.int .u8 8,.int .u8 7,.int .u8 6] t frozen
    | o=>o).modify 1 fun
    | .cells _ t frozen=> .cells #[.int .u64 1,.int .u64 10,.int .u64 100,.int .u64 1000,.int .u64 10000,.int .u64 100000,.int .u64 1000000,.int .u64 10000000,.int .u64 100000000,.int .u64 1000000000,.int .u64 10000000000,.int .u64 100000000000,.int .u64 1000000000000,.int .u64 10000000000000,.int .u64 100000000000000,.int .u64 1000000000000000,.int .u64 10000000000000000,.int .u64 100000000000000000,.int .u64 1000000000000000000,.int .u64 10000000000000000000] t frozen
    | o=>o).modify 0 fun
    | .cells _ t frozen=> .cells #[.iface 162 (.agg #[.pointer (some ⟨4,26,none⟩)])] t frozen
    | o=>o }
theorem laidWorld_met (os:Os)(args:Array Value):laidMetH Tryz.prog laidL ((laidWorld os).forCall (fun _ _=>0) ⟨#[],args,[]⟩).memory:=
 laidMetH_of_parts (laidMet_of_run' 8 (by kernel_rfl) (by kernel_rfl):laidMet Tryz.prog laidT _) (by kernel_rfl)
section
variable {H:Type} {enc:TypeId×Value→H} {w:World} {base:Nat} {spare:Nat→Bool} {held:Bool}
theorem open_cert {r:Reach}{b0:Nat}{v:Value}{d:DataW H}{p:List MemPlace}(hv:Value.okWide Tryz.prog w r b0 43 v)(h:DataW.Trod enc Tryz.prog w base spare held 43 v d p):
 ∃la ln lcap lms ra rn rcap ss,v= .agg #[.slice la ln lcap,.slice ra rn rcap]∧lms.length=ln∧ln≤9223372036854775807∧ss.length=rn∧rn≤9223372036854775807∧LmLies w.heap.size w la lms∧Prp.CLies w.heap.size w ra ss∧∀i,i<rn→(ss.getD i []).length≤9223372036854775807:=by
 obtain⟨cs,rfl,hsz⟩:=okWide_struct Tryz.underlying43 hv
 obtain⟨fuel,hf⟩:=h
 obtain⟨c0,c1,y0,y1,n,e,h0,h1⟩:=Pak.two_fields (cs:=cs.toList) Tryz.underlying43 (by kernel_rfl) ⟨rfl,by kernel_rfl⟩ ⟨rfl,by kernel_rfl⟩ (by simpa [Value.cells]using hf)
 obtain⟨la,lcap,lms,e0,hs0,hl0,hm0,_⟩:=Pak.open_row (sh:=Pak.lemSh) Tryz.underlying40 (by kernel_rfl) (by decide) Pak.opn_lem h0
 obtain⟨ra,rcap,ss,e1,hs1,hl1,hm1,_⟩:=Pak.open_row (sh:=Pak.clauseSh) Tryz.underlying41 (by kernel_rfl) (by decide) Pak.opn_clause h1
 have e2:=List.cons.inj e0
 have e3:=List.cons.inj e1
 have ecs:cs= #[.slice la lms.length lcap,.slice ra ss.length rcap]:=by
  cases cs
  simp only[]at e
  rw[e,e2.1,e3.1]
 have h63:maxLen=9223372036854775807:=rfl
 exact⟨la,_,lcap,lms,ra,_,rcap,ss,by rw[ecs],rfl,by omega,rfl,by omega,lmlies_of hs0,clies_of hs1 (fun b hb=>hb),fun i hi=>by
  obtain⟨b,off,us,_,_,_,u,rfl,a,cap,rfl,hn⟩:=hs1.2 i hi
  have:=hn.1
  rwa [List.getD_eq_getElem?_getD,List.getElem?_eq_getElem hi,Option.getD_some]⟩
end
end
section
open Go.RowKit
theorem CertIs.zero {nk mk:Int}{ks:Nat→Int}{nl:Nat}{N:Int}{cs ss:List (List Int)}{x at':Int}(h:CertIs nk mk ks nl N cs ss x at')(hx:x=0):nk=0∧mk=0:=by
 cases h with
 | norm h=>exact absurd hx h
 | cnf _ h=>exact absurd hx h
 | lem j _ _ _ _ h=>exact absurd hx h
 | rup _ _ h1 h2=>exact⟨h1,h2⟩
theorem errIs_iface {B:Nat}{x at':Int}{er:Value}{w:World}(h:Prp.ErrIs B x at' er w)(hx:x≠0):∃t v,er= .iface t v:=by
 by_cases ha:at'<0
 ·have e:er=Prp.codeV x:=h.1 ha
  unfold Prp.codeV at e
  rw[if_neg hx]at e
  exact⟨_,_,e⟩
 ·obtain⟨g,e,_⟩:=h.2 (by omega)
  exact⟨_,_,e⟩
structure GivenK (n:Nat)(f:FT)(cs:List Value)(la:Option Addr)(ln:Nat)(lms:List (List Int×List (List (Int×Int)×Int)))(ra:Option Addr)(rn:Nat)(ss:List (List Int))(w:World):Prop where
 f:FLies w.heap.size w (n+1) f cs
 eln:lms.length=ln
 l:LmLies w.heap.size w la lms
 ern:ss.length=rn
 r:Prp.CLies w.heap.size w ra ss
 l63:ln≤9223372036854775807
 r63:rn≤9223372036854775807
 cl:∀i,i<rn→(ss.getD i []).length≤9223372036854775807
theorem GivenK.below {n:Nat}{f:FT}{cs:List Value}{la:Option Addr}{ln:Nat}{lms:List (List Int×List (List (Int×Int)×Int))}{ra:Option Addr}{rn:Nat}{ss:List (List Int)}{w W:World}(h:GivenK n f cs la ln lms ra rn ss w)(hb:Below w.heap.size w W):GivenK n f cs la ln lms ra rn ss W:=
 ⟨(h.f.below hb).mono hb.size,h.eln,h.l.below hb hb.size,h.ern,(h.r.below hb).mono hb.size,h.l63,h.r63,h.cl⟩
theorem certRight_any (hup:UpSaid10)(hbeg:Prp.BeginSaid)(n:Nat)(f:FT)(cs:List Value)(la:Option Addr)(ln lcap:Nat)(lms:List (List Int×List (List (Int×Int)×Int)))(ra:Option Addr)(rn rcap:Nat)(ss:List (List Int))(a2:Option Addr)(n2 cap2:Nat)(zs:List Int)(w:World)(h:GivenK n f cs la ln lms ra rn ss w)(hn2:zs.length=n2)(hm2:n2≤9223372036854775807)(hz:Nums w.heap.size w a2 zs)(ht:Tens w.heap.size w)(hg:Prp.Laid0 w):
 Calls Tryz.prog 5 #[.agg cs.toArray,.agg #[.slice la ln lcap,.slice ra rn rcap],.slice a2 n2 cap2] w fun e w'=>e= .returned (.bool true)∧Below w.heap.size w w':=by
 obtain⟨ks,hks⟩:=lems_is (atomsF (n+3) (nrmT (n+1) f)) lms
 have hK:=fun W (hb:Below w.heap.size w W)=>h.below hb
 have HUP:=Lib.hid (fun W (hb:Below w.heap.size w W)=>hup W (ht.up hb hb.size) (hg.below hb hg.pos))
 have HSM:=Lib.hid (fun W (hb:Below w.heap.size w W)=>small10_any n f cs la ln lcap lms ra rn rcap ss W (hK W hb).f h.eln (hK W hb).l h.ern (hK W hb).r h.l63 h.r63 h.cl)
 have HCK:=Lib.hid (fun(hE:EasyC lms ss) W (hb:Below w.heap.size w W)=>check_cert hbeg n f cs la ln lcap lms ra rn rcap ss ks W (hK W hb).f (ht.up hb hb.size) (hg.below hb hg.pos) h.eln (hK W hb).l h.ern (hK W hb).r hE hks)
 have HFV:=Lib.hid (fun W (hb:Below w.heap.size w W)=>fvalue_any (n+1) f cs a2 n2 cap2 zs W (hK W hb).f hn2 ((hz.below hb).mono hb.size))
 have HRT:=Lib.hid (fun at' (hc:CertIs (nrmK (n+1) f) (cnfK (n+3) (nrmT (n+1) f)) ks lms.length (makF (n+3) (nrmT (n+1) f)).n (clsF (n+3) (nrmT (n+1) f) ++ lms.map Prod.fst) ss 0 at') (hv:(fvN zs (n+1) f).2=0)=>cert_right (ret_made (cnfK_made (hc.zero rfl).2)) hv hks hc)
 have n0:=fun W=>Tryz.neNil W
 have n1:=fun t v W=>Cut.Tryz.neIface t v W
 have hh:=h.f
 clear hup hbeg ht hg hK h hks hz hn2
 obtain⟨ta,tcap,ka,kcap,rfl, -⟩:=hh
 have hb0:=box_start w f.kind f.c ta ka f.t.length tcap f.ks.length kcap
 generalize (fvN zs (n+1) f).2=fb at*
 generalize (fvN zs (n+1) f).1=fis at*
 generalize nrmK (n+1) f=nk at*
 generalize nrmT (n+1) f=g at*
 generalize cnfK (n+3) g=mk at*
 generalize f.kind=fk at*
 generalize f.c=fc at*
 generalize f.t.length=ft at*
 generalize f.ks.length=fl at*
 have hA2:Below (w.alloc (.cells #[.int .i64 fk,.int .i64 fc,.slice ta ft tcap,.slice ka fl kcap] 39)).heap.size (w.alloc (.cells #[.int .i64 fk,.int .i64 fc,.slice ta ft tcap,.slice ka fl kcap] 39)) ((w.alloc (.cells #[.int .i64 fk,.int .i64 fc,.slice ta ft tcap,.slice ka fl kcap] 39)).alloc (.cells #[.slice la ln lcap,.slice ra rn rcap] 43)):=(Below.refl _ _).alloc (Nat.le_refl _) _
 have hz1:(w.alloc (.cells #[.int .i64 fk,.int .i64 fc,.slice ta ft tcap,.slice ka fl kcap] 39)).heap.size=w.heap.size+1:=by simp
 have hn2:=heap_alloc_new (w.alloc (.cells #[.int .i64 fk,.int .i64 fc,.slice ta ft tcap,.slice ka fl kcap] 39)) (.cells #[.slice la ln lcap,.slice ra rn rcap] 43)
 rw[hz1]at hn2
 have hz2:((w.alloc (.cells #[.int .i64 fk,.int .i64 fc,.slice ta ft tcap,.slice ka fl kcap] 39)).alloc (.cells #[.slice la ln lcap,.slice ra rn rcap] 43)).heap.size=w.heap.size+2:=by simp
 have T1:=Lib.hid (hb0.below hA2 hb0.lt)
 have D0:((w.alloc (.cells #[.int .i64 fk,.int .i64 fc,.slice ta ft tcap,.slice ka fl kcap] 39)).alloc (.cells #[.slice la ln lcap,.slice ra rn rcap] 43)).cell? ⟨w.heap.size+1,0,none⟩=some (.slice la ln lcap):=(cell_of_row _ _ _ _ _ _ hn2).trans rfl
 have D1:((w.alloc (.cells #[.int .i64 fk,.int .i64 fc,.slice ta ft tcap,.slice ka fl kcap] 39)).alloc (.cells #[.slice la ln lcap,.slice ra rn rcap] 43)).cell? ⟨w.heap.size+1,1,none⟩=some (.slice ra rn rcap):=(cell_of_row _ _ _ _ _ _ hn2).trans rfl
 clear hb0 hA2 hz1 hn2
 generalize hWW:(w.alloc (.cells #[.int .i64 fk,.int .i64 fc,.slice ta ft tcap,.slice ka fl kcap] 39)).alloc (.cells #[.slice la ln lcap,.slice ra rn rcap] 43)=W2 at*
 have HCE:Hid (∀W,Below W2.heap.size W2 W→Below w.heap.size w W∧(W.cell? ⟨w.heap.size,0,none⟩=some (.int .i64 fk)∧W.cell? ⟨w.heap.size,1,none⟩=some (.int .i64 fc)∧W.cell? ⟨w.heap.size,2,none⟩=some (.slice ta ft tcap)∧W.cell? ⟨w.heap.size,3,none⟩=some (.slice ka fl kcap))∧W.cell? ⟨w.heap.size+1,0,none⟩=some (.slice la ln lcap)∧W.cell? ⟨w.heap.size+1,1,none⟩=some (.slice ra rn rcap)):=fun W hb=>by
  obtain⟨t1,t2,t3,t4,t5,t6⟩:=T1.out.below hb T1.out.lt
  exact⟨t6,⟨t2,t3,t4,t5⟩,(hb.cell (p:=⟨w.heap.size+1,0,none⟩) (show w.heap.size+1<_ by omega)).trans D0,(hb.cell (p:=⟨w.heap.size+1,1,none⟩) (show w.heap.size+1<_ by omega)).trans D1⟩
 subst hWW
 clear D0 D1 hz2 T1
 go_enter Tryz.func5,Tryz.ntmps5
 go_wp2_with fail
 generalize (w.alloc (.cells #[.int .i64 fk,.int .i64 fc,.slice ta ft tcap,.slice ka fl kcap] 39)).alloc (.cells #[.slice la ln lcap,.slice ra rn rcap] 43)=W2 at*
 refine(HUP.out _ (HCE.out _ (Below.refl _ _)).1).mono ?_
 rintro e w1 ⟨rfl,hb1⟩
 have B1:=Lib.hid hb1
 obtain⟨_,⟨p0,p1,p2,p3⟩,d0,d1⟩:=HCE.out _ B1.out
 clear hb1 HUP
 go_wp2_with fail
 refine(HSM.out _ (HCE.out _ B1.out).1).mono ?_
 rintro e w2 ⟨b,rfl,hb2,hE⟩
 have B2:=Lib.hid (B1.out.trans (hb2.mono B1.out.size))
 clear hb2 HSM p0 p1 p2 p3 d0 d1
 cases b with
 | false=>
   clear hE
   have HE:=Lib.hid (HCE.out _ B2.out).1
   go_wp2_with fail
   go_ret
   exact⟨rfl,HE.out⟩
 | true=>
   have HEE:Hid (EasyC lms ss):=Lib.hid (by first | exact hE rfl | exact hE trivial)
   obtain⟨_,⟨p0,p1,p2,p3⟩,d0,d1⟩:=HCE.out _ B2.out
   clear hE
   go_wp2_with fail
   refine(HCK.out HEE.out _ (HCE.out _ B2.out).1).mono ?_
   rintro e w3 ⟨er,x,at',rfl,hc,her,hb3⟩
   have B3:=Lib.hid (B2.out.trans (hb3.mono B2.out.size))
   have HEX:Hid ((x=0∧er= .nilIface)∨(x≠0∧∃t v,er= .iface t v)):=Lib.hid (by
    by_cases hx:x=0
    ·refine .inl ⟨hx, ?_⟩
     have hneg:at'<0:=by
      have:=hc.zero hx
      refine Classical.byContradiction fun hn=> ?_
      cases hc with
      | norm h=>exact absurd hx h
      | cnf _ h=>exact absurd hx h
      | lem j _ _ _ _ h=>exact absurd hx h
      | rup _ _ _ _ _ hr=>exact hr.in.2.1 (by omega) hx
     have:=her.1 hneg
     rw[hx]at this
     exact this
    ·exact .inr ⟨hx,errIs_iface her hx⟩)
   have HC:=Lib.hid hc
   clear hc her hb3 HCK p0 p1 p2 p3 d0 d1
   obtain⟨_,⟨p0,p1,p2,p3⟩,d0,d1⟩:=HCE.out _ B3.out
   go_wp2_with fail
   refine(HFV.out _ (HCE.out _ B3.out).1).mono ?_
   rintro e w4 ⟨rfl,hb4⟩
   have B4:=Lib.hid (B3.out.trans (hb4.mono B3.out.size))
   have HBE:=Lib.hid (HCE.out _ B4.out).1
   clear hb4 HFV HCE p0 p1 p2 p3 d0 d1
   rcases HEX.out with ⟨rfl,rfl⟩ | ⟨_,t,v,rfl⟩
   ·rcases codeV_ways fb with ⟨hf0,hfv⟩ | ⟨_,k,hfv⟩
    ·rw[hfv]
     obtain rfl:fis=false:=HRT.out _ HC.out hf0
     clear hf0 hfv
     go_wp2_with fail
     go_ret
     exact⟨rfl,HBE.out⟩
    ·rw[hfv]
     clear hfv
     go_wp2_with fail
     go_ret
     exact⟨rfl,HBE.out⟩
   ·rcases codeV_ways fb with ⟨_,hfv⟩ | ⟨_,k,hfv⟩
    all_goals
     rw[hfv]
     clear hfv
     go_wp2_with fail
     go_ret
     exact⟨rfl,HBE.out⟩
end
end Go.Proofs.YtipahfcaplbifaaGreatDoor
