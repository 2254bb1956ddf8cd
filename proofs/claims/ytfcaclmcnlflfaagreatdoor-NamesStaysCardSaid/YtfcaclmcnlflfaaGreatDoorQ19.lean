/- Parts of a proof. -/
import Derived.Test.YtfcaclmcnlflfaaGreatDoorQ14
import Derived.Test.YtfcaclmcnlflfaaGreatDoorQ16
import Derived.Deep.RegionLaw
import Derived.Deep.RegionHeld3
import Derived.Deep.CutBlock
import Derived.Deep.DeepCutAuto
import Derived.BigQuiet
set_option linter.unusedVariables false
set_option linter.unusedSimpArgs false
set_option maxHeartbeats 60000000
set_option maxRecDepth 100000
namespace Go.Proofs.YtfcaclmcnlflfaaGreatDoor
section
open Go.RowKit
structure AW (w:World)(pv:Value)(nb cb pb:Bool)(W:World):Prop where
 low:Below w.heap.size w W
 sz:w.heap.size+1+1+1≤W.heap.size
 p4:W.cell? ⟨w.heap.size,0,none⟩=some pv
 a0:W.cell? ⟨w.heap.size+1,0,none⟩=some (.bool nb)
 a1:W.cell? ⟨w.heap.size+1,1,none⟩=some (.bool cb)
 a2:W.cell? ⟨w.heap.size+1,2,none⟩=some (.bool pb)
 f:∀o,W.frozen? ⟨w.heap.size+1,o,none⟩=false
 r:∀o,o<3→W.cell? ⟨w.heap.size+1+1,o,none⟩=some (.bool false)
 rf:∀o,W.frozen? ⟨w.heap.size+1+1,o,none⟩=false
theorem AW.step {w:World}{pv:Value}{nb cb pb:Bool}{W V:World}(h:AW w pv nb cb pb W)(hb:Below W.heap.size W V):AW w pv nb cb pb V:=by
 have hs:=h.sz
 have key:∀b o,b<W.heap.size→V.cell? ⟨b,o,none⟩=W.cell? ⟨b,o,none⟩:=fun b o hl=>hb.cell (p:=⟨b,o,none⟩) hl
 have keyf:∀b o,b<W.heap.size→V.frozen? ⟨b,o,none⟩=W.frozen? ⟨b,o,none⟩:=fun b o hl=>hb.frozen (p:=⟨b,o,none⟩) hl
 exact⟨h.low.trans (hb.mono (by omega)),Nat.le_trans hs hb.size,(key _ _ (by omega)).trans h.p4,(key _ _ (by omega)).trans h.a0,(key _ _ (by omega)).trans h.a1,(key _ _ (by omega)).trans h.a2,fun o=>(keyf _ o (by omega)).trans (h.f o),fun o ho=>(key _ o (by omega)).trans (h.r o ho),fun o=>(keyf _ o (by omega)).trans (h.rf o)⟩
theorem AW.drew {w:World}{pv:Value}{nb cb pb:Bool}{W:World}(h:AW w pv nb cb pb W):AW w pv nb cb pb W.drew:=h.step (Below.refl _ _).drew
theorem AW.alloc {w:World}{pv:Value}{nb cb pb:Bool}{W:World}(h:AW w pv nb cb pb W)(c:Array Value)(t:TypeId):AW w pv nb cb pb (W.alloc (.cells c t)):=h.step box_low
theorem AW.set0 {w:World}{pv:Value}{nb cb pb:Bool}{W:World}(h:AW w pv nb cb pb W)(z:Bool):AW w pv z cb pb (W.setCell ⟨w.heap.size+1,0,none⟩ (.bool z)):=
 ⟨h.low.setCell (p:=⟨w.heap.size+1,0,none⟩) (by show w.heap.size≤w.heap.size+1;omega) _,by rw[World.size_setCell];exact h.sz,by rw[World.cell?_setCell_other _ _ _ _ (by simp)];exact h.p4,World.cell?_setCell_same _ _ _ h.a0,by rw[World.cell?_setCell_other _ _ _ _ (by simp)];exact h.a1,by rw[World.cell?_setCell_other _ _ _ _ (by simp)];exact h.a2,fun o=>by rw[World.frozen?_setCell];exact h.f o,fun o ho=>by rw[World.cell?_setCell_other _ _ _ _ (by simp)];exact h.r o ho,fun o=>by rw[World.frozen?_setCell];exact h.rf o⟩
theorem AW.set1 {w:World}{pv:Value}{nb cb pb:Bool}{W:World}(h:AW w pv nb cb pb W)(z:Bool):AW w pv nb z pb (W.setCell ⟨w.heap.size+1,1,none⟩ (.bool z)):=
 ⟨h.low.setCell (p:=⟨w.heap.size+1,1,none⟩) (by show w.heap.size≤w.heap.size+1;omega) _,by rw[World.size_setCell];exact h.sz,by rw[World.cell?_setCell_other _ _ _ _ (by simp)];exact h.p4,by rw[World.cell?_setCell_other _ _ _ _ (by simp)];exact h.a0,World.cell?_setCell_same _ _ _ h.a1,by rw[World.cell?_setCell_other _ _ _ _ (by simp)];exact h.a2,fun o=>by rw[World.frozen?_setCell];exact h.f o,fun o ho=>by rw[World.cell?_setCell_other _ _ _ _ (by simp)];exact h.r o ho,fun o=>by rw[World.frozen?_setCell];exact h.rf o⟩
theorem AW.set2 {w:World}{pv:Value}{nb cb pb:Bool}{W:World}(h:AW w pv nb cb pb W)(z:Bool):AW w pv nb cb z (W.setCell ⟨w.heap.size+1,2,none⟩ (.bool z)):=
 ⟨h.low.setCell (p:=⟨w.heap.size+1,2,none⟩) (by show w.heap.size≤w.heap.size+1;omega) _,by rw[World.size_setCell];exact h.sz,by rw[World.cell?_setCell_other _ _ _ _ (by simp)];exact h.p4,by rw[World.cell?_setCell_other _ _ _ _ (by simp)];exact h.a0,by rw[World.cell?_setCell_other _ _ _ _ (by simp)];exact h.a1,World.cell?_setCell_same _ _ _ h.a2,fun o=>by rw[World.frozen?_setCell];exact h.f o,fun o ho=>by rw[World.cell?_setCell_other _ _ _ _ (by simp)];exact h.r o ho,fun o=>by rw[World.frozen?_setCell];exact h.rf o⟩
structure SB (g:Nat)(cs:List Value)(W:World):Prop where
 lt:g<W.heap.size
 c:∀o v,cs[o]? =some v→W.cell? ⟨g,o,none⟩=some v
theorem SB.step {g:Nat}{cs:List Value}{W V:World}(h:SB g cs W)(hb:Below W.heap.size W V):SB g cs V:=⟨Nat.lt_of_lt_of_le h.lt hb.size,fun o v hv=>(hb.cell (p:=⟨g,o,none⟩) h.lt).trans (h.c o v hv)⟩
theorem SB.new (cs:List Value)(W:World)(t:TypeId):SB W.heap.size cs (W.alloc (.cells cs.toArray t)):=⟨by simp,fun o v hv=>box_at hv (Below.refl _ _)⟩
theorem SB.alloc {g:Nat}{cs:List Value}{W:World}(h:SB g cs W)(c:Array Value)(t:TypeId):SB g cs (W.alloc (.cells c t)):=h.step box_low
theorem SB.drew {g:Nat}{cs:List Value}{W:World}(h:SB g cs W):SB g cs W.drew:=h.step (Below.refl _ _).drew
theorem SB.set {g:Nat}{cs:List Value}{W:World}(h:SB g cs W){b:Nat}(hne:b≠g)(o:Nat)(v:Value):SB g cs (W.setCell ⟨b,o,none⟩ v):=⟨by rw[World.size_setCell];exact h.lt,fun p u hu=>by rw[World.cell?_setCell_other _ _ _ _ (fun e=>hne (congrArg Addr.block e))];exact h.c p u hu⟩
theorem SB.part {g:Nat}{cs l:List Value}{W:World}(h:SB g cs W){o:Nat}(hp:Part cs o l):∀j v,l[j]? =some v→W.cell? ((⟨g,o,none⟩:Addr).add j)=some v:=fun j v hv=>by
 rw[show(⟨g,o,none⟩:Addr).add j=⟨g,o+j,none⟩ by unfold Addr.add;split<;>simp_all]
 exact h.c _ _ (hp _ _ hv)
theorem AW.stepB {w:World}{pv:Value}{nb cb pb:Bool}{W V:World}{B:Nat}(h:AW w pv nb cb pb W)(hb:Below B W V)(hB:w.heap.size+1+1+1≤B):AW w pv nb cb pb V:=by
 have hs:=h.sz
 have key:∀b o,b<B→V.cell? ⟨b,o,none⟩=W.cell? ⟨b,o,none⟩:=fun b o hl=>hb.cell (p:=⟨b,o,none⟩) hl
 have keyf:∀b o,b<B→V.frozen? ⟨b,o,none⟩=W.frozen? ⟨b,o,none⟩:=fun b o hl=>hb.frozen (p:=⟨b,o,none⟩) hl
 exact⟨h.low.trans (hb.mono (by omega)),Nat.le_trans hs hb.size,(key _ _ (by omega)).trans h.p4,(key _ _ (by omega)).trans h.a0,(key _ _ (by omega)).trans h.a1,(key _ _ (by omega)).trans h.a2,fun o=>(keyf _ o (by omega)).trans (h.f o),fun o ho=>(key _ o (by omega)).trans (h.r o ho),fun o=>(keyf _ o (by omega)).trans (h.rf o)⟩
theorem SB.stepB {g:Nat}{cs:List Value}{W V:World}{B:Nat}(h:SB g cs W)(hb:Below B W V)(hB:g<B):SB g cs V:=⟨Nat.lt_of_lt_of_le h.lt hb.size,fun o v hv=>(hb.cell (p:=⟨g,o,none⟩) hB).trans (h.c o v hv)⟩
def RowX (g:Nat)(xs:List ByteArray)(y:Value)(W:World):Prop:=∃B,g+1≤B∧B≤W.heap.size∧StrRow B xs y W
theorem RowX.step {g:Nat}{xs:List ByteArray}{y:Value}{W V:World}(h:RowX g xs y W)(hb:Below W.heap.size W V):RowX g xs y V:=
 let ⟨B,h1,h2,h3⟩:=h;⟨B,h1,Nat.le_trans h2 hb.size,h3.below hb⟩
theorem RowX.set {g:Nat}{xs:List ByteArray}{y:Value}{W:World}(h:RowX g xs y W){b:Nat}(hb:b≤g)(o:Nat)(u:Value):RowX g xs y (W.setCell ⟨b,o,none⟩ u):=by
 obtain⟨B,h1,h2,h3,h4⟩:=h
 obtain⟨css,c1,c2,c3⟩:=h3.row
 exact⟨B,h1,by rw[World.size_setCell];exact h2,⟨⟨css,c1,ownsRow_setCell_below c2 (a:=⟨b,o,none⟩) (by show b<B;omega) u,fun i hi hi2=>⟨(c3 i hi hi2).1,(c3 i hi hi2).2⟩⟩⟩,h4⟩
theorem RowX.sits {g:Nat}{xs:List ByteArray}{y:Value}{W:World}(h:RowX g xs y W)(hl:xs.length≤1000):Pak.Slot strSh (Pak.Lo W.heap.size) W y xs:=by
 obtain⟨B,h1,h2,h3⟩:=h
 exact h3.1.sits (by omega)
theorem any_snoc {xs:List ByteArray}{p:ByteArray→Bool}{k:Nat}(h:k<xs.length):(xs.take (k+1)).any p=((xs.take k).any p || p xs[k]):=by
 rw[List.take_succ_eq_append_getElem h,List.any_append]
 simp
theorem cat_x {g:Nat}{xs ys:List ByteArray}{y5 y6:Value}{V W:World}(h:RowX g xs y5 V)(h6:StrRow V.heap.size ys y6 W)(hb:Below V.heap.size V W)(hl:xs.length+ys.length≤1000):
 ∃v7 w7,(∀ty,(Builtin.append_ #[38,38] ty #[y5,y6]).run Tryz.prog W= .ok v7 w7)∧RowX g (xs ++ ys) v7 w7∧Below (g+1) V w7:=by
 obtain⟨B,h1,h2,h3⟩:=h
 obtain⟨v7,w7,hr,hrow,hb7⟩:=run_cat_str (w:=W) B xs ys y5 y6 (h3.below hb) (Nat.le_trans h2 hb.size) (h6.1.sits (by omega)) h6.2 (by omega)
 exact⟨v7,w7,hr,⟨B,h1,Nat.le_trans (Nat.le_trans h2 hb.size) hb7.size,hrow⟩,(hb.mono (Nat.le_trans h1 h2)).trans (hb7.mono h1)⟩
def anT (p:Nat→ST→Bool):Nat→ST→Bool
 | 0,_=>false
 | n+1,s=>p (n+1) s || (s.body.any (anT p n) || s.els.any (anT p n))
def ans (p:Nat→ST→Bool)(n:Nat)(l:List ST):Bool:=l.any (anT p n)
theorem anT_succ (p:Nat→ST→Bool)(n:Nat)(s:ST):anT p (n+1) s=(p (n+1) s || (ans p n s.body || ans p n s.els)):=rfl
theorem ans_snoc {p:Nat→ST→Bool}{n:Nat}{l:List ST}{j:Nat}(h:j<l.length):ans p n (l.take (j+1))=(ans p n (l.take j) || anT p n l[j]):=by
 unfold ans
 rw[List.take_succ_eq_append_getElem h,List.any_append]
 simp
def stN (qs:List QT)(gh:List ByteArray):Nat→ST→Bool
 | 0,_=>false
 | k+1,s=>(rdS k s).any (fun x=>hasW x gh) || (s.p.kind == 9 && !calB s.p.callee qs)
def stC (qs:List QT)(_:Nat)(s:ST):Bool:=s.p.kind == 9 && (calB s.p.callee qs && !((calP s.p.callee qs == s.p.args.length) && (calG s.p.callee qs == s.p.ghosts.length)))
def stP:Nat→ST→Bool
 | 0,_=>false
 | k+1,s=>s.p.kind == 7 && prA k s.p.a
end
section
open Go.RowKit
def AmEnd (n c p:Bool)(w:World)(r:Ending)(w':World):Prop:=r= .returned (.agg #[.bool n,.bool c,.bool p])∧Below w.heap.size w w'
theorem nstmts_box (n nq:Nat)(qs:List QT)(gh:List ByteArray)(es:List ST)(pa ga a:Option Addr)(pm pc gl gc m cap:Nat)(n0 c0 p0:Bool)(w:World)(hm:es.length=m)(hpm:qs.length=pm)(hgl:gh.length=gl)(hpt:ptTs (n+1) es≤1000)(hs:Pak.Sits (stmtSh (n+1)) (Pak.Lo w.heap.size) w a es)(hq:Pak.Sits (procSh nq) (Pak.Lo w.heap.size) w pa qs)(hg:Pak.Sits strSh (Pak.Lo w.heap.size) w ga gh)
 (hk:∀(x:ST) (t:List ST) (u:Option Addr) (c:Nat) (W:World) (n1 c1 p1:Bool),x∈es→t=x.body∨t=x.els→Below w.heap.size w W→Pak.Sits (stmtSh n) (Pak.Lo W.heap.size) W u t→Calls Tryz.prog 19 #[.agg #[.slice pa pm pc],.slice ga gl gc,.slice u t.length c,.agg #[.bool n1,.bool c1,.bool p1]] W (AmEnd (n1 || ans (stN qs gh) n t) (c1 || ans (stC qs) n t) (p1 || ans stP n t) W)):
 Calls Tryz.prog 19 #[.agg #[.slice pa pm pc],.slice ga gl gc,.slice a m cap,.agg #[.bool n0,.bool c0,.bool p0]] w (AmEnd (n0 || ans (stN qs gh) (n+1) es) (c0 || ans (stC qs) (n+1) es) (p0 || ans stP (n+1) es) w):=by
 have HS:=Lib.hid hs
 have HQ:=Lib.hid hq
 have HG:=Lib.hid hg
 have HM:=Lib.hid hm
 have HPM:=Lib.hid hpm
 have HGL:=Lib.hid hgl
 have HP:=Lib.hid hpt
 have hmm:m≤9223372036854775807:=by rw[←hm];exact hs.1
 have hpmm:pm≤9223372036854775807:=by rw[←hpm];exact hq.1
 have HK:=Lib.hid hk
 have A0:Hid (AW w (.slice pa pm pc) (n0 || ans (stN qs gh) (n+1) (es.take 0)) (c0 || ans (stC qs) (n+1) (es.take 0)) (p0 || ans stP (n+1) (es.take 0)) (((w.alloc (.cells #[.slice pa pm pc] 24)).alloc (.cells #[.bool n0,.bool c0,.bool p0] 64)).alloc (.cells #[.bool false,.bool false,.bool false] 64))):=Lib.hid (by
  rw[show ans (stN qs gh) (n+1) (es.take 0)=false from rfl,show ans (stC qs) (n+1) (es.take 0)=false from rfl,show ans stP (n+1) (es.take 0)=false from rfl,Bool.or_false,Bool.or_false,Bool.or_false]
  refine⟨(box_low.alloc (by simp) _).alloc (by simp;omega) _,by simp,by simp[go_sem],by simp[go_sem],by simp[go_sem],by simp[go_sem],fun o=>by simp[go_sem],fun o ho=> ?_,fun o=>by simp[go_sem]⟩
  have h3:o=0∨o=1∨o=2:=by omega
  rcases h3 with rfl | rfl | rfl<;>simp[go_sem])
 clear hs hq hg hm hpm hgl hpt hk
 go_enter Tryz.func19,Tryz.ntmps19
 go_wp2_with fail
 go_loopw [9] (fun i wr=>∃j:Nat,j≤m∧i= .int .i64 j∧Hid (AW w (.slice pa pm pc) (n0 || ans (stN qs gh) (n+1) (es.take j)) (c0 || ans (stC qs) (n+1) (es.take j)) (p0 || ans stP (n+1) (es.take j)) wr)) (fun i _=>m - (intOf i).toNat)
 case atStart=>exact⟨0,Nat.zero_le _,rfl,A0⟩
 case round=>
  clear A0
  obtain⟨j,hj,rfl,haw⟩:=hrel
  obtain⟨wo,rfl⟩:∃wo:World,wo=wr:=⟨_,rfl⟩
  have AO:=Lib.hid haw.out
  clear haw
  by_cases hlt:j<m
  ·have hlx:j<es.length:=by rw[HM.out];exact hlt
   have hji:(j:Int)<(m:Int):=by omega
   obtain⟨b,off,cs,rfl,hbl,hc,hr⟩:=HS.out.2 j hlx
   rw[stmtSh_k]at hc
   have HC0:Hid (∀i v,cs[i]? =some v→wo.cell? ((⟨b,off+j*35,none⟩:Addr).add i)=some v):=fun i v hv=>by
    rw[show(⟨b,off+j*35,none⟩:Addr).add i=⟨b,off+j*35+i,none⟩ by unfold Addr.add;split<;>simp_all]
    exact(AO.out.low.cell (p:=⟨b,_,none⟩) hbl).trans (hc i v hv)
   obtain⟨ce,cv,cc,ca,u5,u6,u7,u8,u9,d5,d6,d7,d8,d9,H⟩:=stmt_is hr
   obtain⟨u1,k1,u2,k2,rfl⟩:=cond_form H.rc
   obtain⟨u3,k3,rfl⟩:=expr_form H.re
   obtain⟨u4,k4,rfl⟩:=expr_form H.rv
   have HPT:Hid (ptTs (n+1) (es.take j)+ptT (n+1) es[j]≤1000):=Lib.hid (by have h1:=ptTs_take (n:=n+1) hlx;have h3:=HP.out;omega)
   have HSN:=Lib.hid (And.intro (ans_snoc (p:=stN qs gh) (n:=n+1) hlx) (And.intro (ans_snoc (p:=stC qs) (n:=n+1) hlx) (ans_snoc (p:=stP) (n:=n+1) hlx)))
   have HKJ:=Lib.hid (fun t u c W n1 c1 p1=>HK.out es[j] t u c W n1 c1 p1 (List.getElem_mem hlx))
   generalize es[j]=s at*
   have HH:=Lib.hid H
   have HCL:=Lib.hid H.len
   have HO:=Lib.hid H.one
   have HLE:=Lib.hid (show(rdS n s).length≤1000∧ptEs n [s.p.e,s.p.v]≤1000∧ptCs n [s.p.c]≤1000∧ptEs n s.p.args≤1000 from by
    have h1:=HPT.out
    have h2:=ptT_succ n s
    have h3:=vrEs_len n [s.p.e,s.p.v]
    have h4:=vrCs_len n [s.p.c]
    have h5:=vrEs_len n s.p.args
    unfold rdS
    rw[List.length_append,List.length_append]
    refine⟨by omega,by omega,by omega,by omega⟩)
   have A1:=Lib.hid (AO.out.alloc cs.toArray 47)
   have S1:=Lib.hid (SB.new cs wo 47)
   clear hc hr H HPT
   generalize ans (stN qs gh) (n+1) (es.take j)=nj at*
   generalize ans (stC qs) (n+1) (es.take j)=cj at*
   generalize ans stP (n+1) (es.take j)=pj at*
   have HVE:Hid (∀X,Below w.heap.size w X→∀V,Below (X.alloc (.cells #[.int .i64 s.p.e.kind,.int .i64 s.p.e.n,.string s.p.e.name,.slice u3 s.p.e.ks.length k3,.int .i64 s.p.v.kind,.int .i64 s.p.v.n,.string s.p.v.name,.slice u4 s.p.v.ks.length k4] 37)).heap.size (X.alloc (.cells #[.int .i64 s.p.e.kind,.int .i64 s.p.e.n,.string s.p.e.name,.slice u3 s.p.e.ks.length k3,.int .i64 s.p.v.kind,.int .i64 s.p.v.n,.string s.p.v.name,.slice u4 s.p.v.ks.length k4] 37)) V→Calls Tryz.prog 51 #[.slice (some ⟨X.heap.size,0,none⟩) 2 2] V (VrEnd (vrEs n [s.p.e,s.p.v]) V)):=Lib.hid fun X hX V hV=>varsE_any n [s.p.e,s.p.v] (some ⟨X.heap.size,0,none⟩) 2 V HLE.out.2.1 ((sits_two2 (cs:=[.int .i64 s.p.e.kind,.int .i64 s.p.e.n,.string s.p.e.name,.slice u3 s.p.e.ks.length k3]) (ds:=[.int .i64 s.p.v.kind,.int .i64 s.p.v.n,.string s.p.v.name,.slice u4 s.p.v.ks.length k4]) (heap_alloc_new X _) (by simp) (by rw[exprSh_k];rfl) (rel_low HH.out.re (hX.alloc hX.size _)) (rel_low HH.out.rv (hX.alloc hX.size _))).below hV hV.size)
   have HVC:Hid (∀X,Below w.heap.size w X→∀V,Below (X.alloc (.cells #[.int .i64 s.p.c.kind,.slice u1 s.p.c.es.length k1,.slice u2 s.p.c.ks.length k2] 41)).heap.size (X.alloc (.cells #[.int .i64 s.p.c.kind,.slice u1 s.p.c.es.length k1,.slice u2 s.p.c.ks.length k2] 41)) V→Calls Tryz.prog 52 #[.slice (some ⟨X.heap.size,0,none⟩) 1 1] V (VrEnd (vrCs n [s.p.c]) V)):=Lib.hid fun X hX V hV=>varsC_any n [s.p.c] (some ⟨X.heap.size,0,none⟩) 1 V HLE.out.2.2.1 ((sits_blk (heap_alloc_new X _) (by simp) (rel_low HH.out.rc (hX.alloc hX.size _))).below hV hV.size)
   have HVA:=Lib.hid (fun W (hW:Below w.heap.size w W)=>varsE_any n s.p.args u5 d5 W HLE.out.2.2.2 (HH.out.rargs.below hW hW.size))
   have HSF:Hid (∀W,SB wo.heap.size cs W→W.cell? ⟨wo.heap.size,4,none⟩=some (.int .i64 s.p.e.kind)∧W.cell? ⟨wo.heap.size,5,none⟩=some (.int .i64 s.p.e.n)∧W.cell? ⟨wo.heap.size,6,none⟩=some (.string s.p.e.name)∧W.cell? ⟨wo.heap.size,7,none⟩=some (.slice u3 s.p.e.ks.length k3)∧W.cell? ⟨wo.heap.size,8,none⟩=some (.int .i64 s.p.v.kind)∧W.cell? ⟨wo.heap.size,9,none⟩=some (.int .i64 s.p.v.n)∧W.cell? ⟨wo.heap.size,10,none⟩=some (.string s.p.v.name)∧W.cell? ⟨wo.heap.size,11,none⟩=some (.slice u4 s.p.v.ks.length k4)∧W.cell? ⟨wo.heap.size,12,none⟩=some (.int .i64 s.p.c.kind)∧W.cell? ⟨wo.heap.size,13,none⟩=some (.slice u1 s.p.c.es.length k1)∧W.cell? ⟨wo.heap.size,14,none⟩=some (.slice u2 s.p.c.ks.length k2)):=Lib.hid fun W h=>⟨h.c 4 _ (HH.out.pe.at (j:=0) rfl),h.c 5 _ (HH.out.pe.at (j:=1) rfl),h.c 6 _ (HH.out.pe.at (j:=2) rfl),h.c 7 _ (HH.out.pe.at (j:=3) rfl),h.c 8 _ (HH.out.pv.at (j:=0) rfl),h.c 9 _ (HH.out.pv.at (j:=1) rfl),h.c 10 _ (HH.out.pv.at (j:=2) rfl),h.c 11 _ (HH.out.pv.at (j:=3) rfl),h.c 12 _ (HH.out.pc.at (j:=0) rfl),h.c 13 _ (HH.out.pc.at (j:=1) rfl),h.c 14 _ (HH.out.pc.at (j:=2) rfl)⟩
   have HCL2:Hid ((vrEs n [s.p.e,s.p.v]).length+(vrCs n [s.p.c]).length≤1000∧(vrEs n [s.p.e,s.p.v] ++ vrCs n [s.p.c]).length+(vrEs n s.p.args).length≤1000):=Lib.hid (by have:=HLE.out.1;unfold rdS at this;rw[List.length_append,List.length_append]at this;rw[List.length_append];omega)
   have HSZ:Hid (w.heap.size+1+1+1≤wo.heap.size+1):=Lib.hid (Nat.le_succ_of_le AO.out.sz)
   have AD:Hid (AW w (.slice pa pm pc) (n0 || nj) (c0 || cj) (p0 || pj) ((wo.alloc (.cells cs.toArray 47)).drew)):=Lib.hid A1.out.drew
   have ADE:=Lib.hid (AD.out.alloc #[.int .i64 s.p.e.kind,.int .i64 s.p.e.n,.string s.p.e.name,.slice u3 s.p.e.ks.length k3,.int .i64 s.p.v.kind,.int .i64 s.p.v.n,.string s.p.v.name,.slice u4 s.p.v.ks.length k4] 37)
   have ADC:=Lib.hid (AD.out.alloc #[.int .i64 s.p.c.kind,.slice u1 s.p.c.es.length k1,.slice u2 s.p.c.ks.length k2] 41)
   have ADCE:=Lib.hid (ADC.out.alloc #[.int .i64 s.p.e.kind,.int .i64 s.p.e.n,.string s.p.e.name,.slice u3 s.p.e.ks.length k3,.int .i64 s.p.v.kind,.int .i64 s.p.v.n,.string s.p.v.name,.slice u4 s.p.v.ks.length k4] 37)
   have ADEC:=Lib.hid (ADE.out.alloc #[.int .i64 s.p.c.kind,.slice u1 s.p.c.es.length k1,.slice u2 s.p.c.ks.length k2] 41)
   have SD:Hid (SB wo.heap.size cs ((wo.alloc (.cells cs.toArray 47)).drew)):=Lib.hid S1.out.drew
   have SDE:=Lib.hid (SD.out.alloc #[.int .i64 s.p.e.kind,.int .i64 s.p.e.n,.string s.p.e.name,.slice u3 s.p.e.ks.length k3,.int .i64 s.p.v.kind,.int .i64 s.p.v.n,.string s.p.v.name,.slice u4 s.p.v.ks.length k4] 37)
   have SDC:=Lib.hid (SD.out.alloc #[.int .i64 s.p.c.kind,.slice u1 s.p.c.es.length k1,.slice u2 s.p.c.ks.length k2] 41)
   have SDCE:=Lib.hid (SDC.out.alloc #[.int .i64 s.p.e.kind,.int .i64 s.p.e.n,.string s.p.e.name,.slice u3 s.p.e.ks.length k3,.int .i64 s.p.v.kind,.int .i64 s.p.v.n,.string s.p.v.name,.slice u4 s.p.v.ks.length k4] 37)
   have SDEC:=Lib.hid (SDE.out.alloc #[.int .i64 s.p.c.kind,.slice u1 s.p.c.es.length k1,.slice u2 s.p.c.ks.length k2] 41)
   have hSD:=HSF.out _ SD.out
   have q12:=HSF.out _ S1.out
   obtain⟨q4,q5,q6,q7,q8,q9,q10,q11,q12,q13,q14⟩:=q12
   go_upto_region 5 with (first | go_skip | (refine wpList_store_new (by kernel_rfl) 47 _ _ rfl _ rfl cs rfl (by rw[HCL.out];kernel_rfl) (by rw[HCL.out];rfl) HO.out ?_) | (refine wpList_load_w (by kernel_rfl) 47 _ rfl ⟨b,off+j*35,none⟩ rfl cs _ HC0.out Tryz.underlying47 rfl (by rw[HCL.out];kernel_rfl) ?_))
   simp only[Act.put]
   go_cut [11] (fun v wx=>Hid (RowX wo.heap.size (vrEs n [s.p.e,s.p.v] ++ vrCs n [s.p.c]) v wx)∧Hid (AW w (.slice pa pm pc) (n0 || nj) (c0 || cj) (p0 || pj) wx)∧Hid (SB wo.heap.size cs wx))
   case first=>
    have FA1:Hid (Calls Tryz.prog 51 #[.slice (some ⟨wo.heap.size+1,0,none⟩) 2 2] (((wo.alloc (.cells cs.toArray 47)).alloc (.cells #[.int .i64 s.p.e.kind,.int .i64 s.p.e.n,.string s.p.e.name,.slice u3 s.p.e.ks.length k3,.int .i64 s.p.v.kind,.int .i64 s.p.v.n,.string s.p.v.name,.slice u4 s.p.v.ks.length k4] 37)).drew) (VrEnd (vrEs n [s.p.e,s.p.v]) (((wo.alloc (.cells cs.toArray 47)).alloc (.cells #[.int .i64 s.p.e.kind,.int .i64 s.p.e.n,.string s.p.e.name,.slice u3 s.p.e.ks.length k3,.int .i64 s.p.v.kind,.int .i64 s.p.v.n,.string s.p.v.name,.slice u4 s.p.v.ks.length k4] 37)).drew))):=Lib.hid (by
     have h:=HVE.out ((wo.alloc (.cells cs.toArray 47)).drew) AD.out.low _ (Below.refl _ _)
     rw[show((wo.alloc (.cells cs.toArray 47)).drew).heap.size=wo.heap.size+1 from by simp]at h
     exact h)
    have FA2:Hid (Calls Tryz.prog 51 #[.slice (some ⟨wo.heap.size+1+1,0,none⟩) 2 2] ((((wo.alloc (.cells cs.toArray 47)).alloc (.cells #[.int .i64 s.p.c.kind,.slice u1 s.p.c.es.length k1,.slice u2 s.p.c.ks.length k2] 41)).alloc (.cells #[.int .i64 s.p.e.kind,.int .i64 s.p.e.n,.string s.p.e.name,.slice u3 s.p.e.ks.length k3,.int .i64 s.p.v.kind,.int .i64 s.p.v.n,.string s.p.v.name,.slice u4 s.p.v.ks.length k4] 37)).drew) (VrEnd (vrEs n [s.p.e,s.p.v]) ((((wo.alloc (.cells cs.toArray 47)).alloc (.cells #[.int .i64 s.p.c.kind,.slice u1 s.p.c.es.length k1,.slice u2 s.p.c.ks.length k2] 41)).alloc (.cells #[.int .i64 s.p.e.kind,.int .i64 s.p.e.n,.string s.p.e.name,.slice u3 s.p.e.ks.length k3,.int .i64 s.p.v.kind,.int .i64 s.p.v.n,.string s.p.v.name,.slice u4 s.p.v.ks.length k4] 37)).drew))):=Lib.hid (by
     have h:=HVE.out (((wo.alloc (.cells cs.toArray 47)).drew).alloc (.cells #[.int .i64 s.p.c.kind,.slice u1 s.p.c.es.length k1,.slice u2 s.p.c.ks.length k2] 41)) ADC.out.low _ (Below.refl _ _)
     rw[show(((wo.alloc (.cells cs.toArray 47)).drew).alloc (.cells #[.int .i64 s.p.c.kind,.slice u1 s.p.c.es.length k1,.slice u2 s.p.c.ks.length k2] 41)).heap.size=wo.heap.size+1+1 from by simp]at h
     exact h)
    have FA3:Hid (Calls Tryz.prog 51 #[.slice (some ⟨wo.heap.size+1,0,none⟩) 2 2] ((((wo.alloc (.cells cs.toArray 47)).alloc (.cells #[.int .i64 s.p.e.kind,.int .i64 s.p.e.n,.string s.p.e.name,.slice u3 s.p.e.ks.length k3,.int .i64 s.p.v.kind,.int .i64 s.p.v.n,.string s.p.v.name,.slice u4 s.p.v.ks.length k4] 37)).alloc (.cells #[.int .i64 s.p.c.kind,.slice u1 s.p.c.es.length k1,.slice u2 s.p.c.ks.length k2] 41)).drew) (VrEnd (vrEs n [s.p.e,s.p.v]) ((((wo.alloc (.cells cs.toArray 47)).alloc (.cells #[.int .i64 s.p.e.kind,.int .i64 s.p.e.n,.string s.p.e.name,.slice u3 s.p.e.ks.length k3,.int .i64 s.p.v.kind,.int .i64 s.p.v.n,.string s.p.v.name,.slice u4 s.p.v.ks.length k4] 37)).alloc (.cells #[.int .i64 s.p.c.kind,.slice u1 s.p.c.es.length k1,.slice u2 s.p.c.ks.length k2] 41)).drew))):=Lib.hid (by
     have h:=HVE.out ((wo.alloc (.cells cs.toArray 47)).drew) AD.out.low ((((wo.alloc (.cells cs.toArray 47)).drew).alloc (.cells #[.int .i64 s.p.e.kind,.int .i64 s.p.e.n,.string s.p.e.name,.slice u3 s.p.e.ks.length k3,.int .i64 s.p.v.kind,.int .i64 s.p.v.n,.string s.p.v.name,.slice u4 s.p.v.ks.length k4] 37)).alloc (.cells #[.int .i64 s.p.c.kind,.slice u1 s.p.c.es.length k1,.slice u2 s.p.c.ks.length k2] 41)) box_low
     rw[show((wo.alloc (.cells cs.toArray 47)).drew).heap.size=wo.heap.size+1 from by simp]at h
     exact h)
    have FB2:Hid (∀w5,Below w.heap.size w w5→Below (((wo.alloc (.cells cs.toArray 47)).drew).alloc (.cells #[.int .i64 s.p.c.kind,.slice u1 s.p.c.es.length k1,.slice u2 s.p.c.ks.length k2] 41)).heap.size (((wo.alloc (.cells cs.toArray 47)).drew).alloc (.cells #[.int .i64 s.p.c.kind,.slice u1 s.p.c.es.length k1,.slice u2 s.p.c.ks.length k2] 41)) w5→Calls Tryz.prog 52 #[.slice (some ⟨wo.heap.size+1,0,none⟩) 1 1] w5 (VrEnd (vrCs n [s.p.c]) w5)):=Lib.hid (fun w5 _ hb=>by
     have h:=HVC.out ((wo.alloc (.cells cs.toArray 47)).drew) AD.out.low w5 hb
     rw[show((wo.alloc (.cells cs.toArray 47)).drew).heap.size=wo.heap.size+1 from by simp]at h
     exact h)
    have FB3:Hid (∀w5,Below w.heap.size w w5→Below ((((wo.alloc (.cells cs.toArray 47)).drew).alloc (.cells #[.int .i64 s.p.e.kind,.int .i64 s.p.e.n,.string s.p.e.name,.slice u3 s.p.e.ks.length k3,.int .i64 s.p.v.kind,.int .i64 s.p.v.n,.string s.p.v.name,.slice u4 s.p.v.ks.length k4] 37)).alloc (.cells #[.int .i64 s.p.c.kind,.slice u1 s.p.c.es.length k1,.slice u2 s.p.c.ks.length k2] 41)).heap.size ((((wo.alloc (.cells cs.toArray 47)).drew).alloc (.cells #[.int .i64 s.p.e.kind,.int .i64 s.p.e.n,.string s.p.e.name,.slice u3 s.p.e.ks.length k3,.int .i64 s.p.v.kind,.int .i64 s.p.v.n,.string s.p.v.name,.slice u4 s.p.v.ks.length k4] 37)).alloc (.cells #[.int .i64 s.p.c.kind,.slice u1 s.p.c.es.length k1,.slice u2 s.p.c.ks.length k2] 41)) w5→Calls Tryz.prog 52 #[.slice (some ⟨wo.heap.size+1+1,0,none⟩) 1 1] w5 (VrEnd (vrCs n [s.p.c]) w5)):=Lib.hid (fun w5 _ hb=>by
     have h:=HVC.out (((wo.alloc (.cells cs.toArray 47)).drew).alloc (.cells #[.int .i64 s.p.e.kind,.int .i64 s.p.e.n,.string s.p.e.name,.slice u3 s.p.e.ks.length k3,.int .i64 s.p.v.kind,.int .i64 s.p.v.n,.string s.p.v.name,.slice u4 s.p.v.ks.length k4] 37)) ADE.out.low w5 hb
     rw[show(((wo.alloc (.cells cs.toArray 47)).drew).alloc (.cells #[.int .i64 s.p.e.kind,.int .i64 s.p.e.n,.string s.p.e.name,.slice u3 s.p.e.ks.length k3,.int .i64 s.p.v.kind,.int .i64 s.p.v.n,.string s.p.v.name,.slice u4 s.p.v.ks.length k4] 37)).heap.size=wo.heap.size+1+1 from by simp]at h
     exact h)
    go_region_held3 (fun V=>V.cell? ⟨wo.heap.size,4,none⟩=some (.int .i64 s.p.e.kind)∧V.cell? ⟨wo.heap.size,5,none⟩=some (.int .i64 s.p.e.n)∧V.cell? ⟨wo.heap.size,6,none⟩=some (.string s.p.e.name)∧V.cell? ⟨wo.heap.size,7,none⟩=some (.slice u3 s.p.e.ks.length k3)∧V.cell? ⟨wo.heap.size,8,none⟩=some (.int .i64 s.p.v.kind)∧V.cell? ⟨wo.heap.size,9,none⟩=some (.int .i64 s.p.v.n)∧V.cell? ⟨wo.heap.size,10,none⟩=some (.string s.p.v.name)∧V.cell? ⟨wo.heap.size,11,none⟩=some (.slice u4 s.p.v.ks.length k4)∧V.cell? ⟨wo.heap.size,12,none⟩=some (.int .i64 s.p.c.kind)∧V.cell? ⟨wo.heap.size,13,none⟩=some (.slice u1 s.p.c.es.length k1)∧V.cell? ⟨wo.heap.size,14,none⟩=some (.slice u2 s.p.c.ks.length k2))
     (first | exact hS7 | exact hS6 | exact hS5 | exact hSD | go_keep)
     (first
       | (refine step_append_runN (by rfl) _ _ _ (by rfl) _ _ v7 w7 (by rfl) (by rfl) hrun ?_)
       | (have TT:=FA;go_at_call 52;(with_reducible refine(HVC.out w5 AW5.out.low (w5.alloc (.cells #[.int .i64 s.p.c.kind,.slice u1 s.p.c.es.length k1,.slice u2 s.p.c.ks.length k2] 41)) (Below.refl _ _)).mono ?_);rintro r w6 ⟨y6,rfl,hrow6,hb6⟩;have AW6:=Lib.hid ((AW5.out.alloc _ _).step hb6);have SB6:=Lib.hid ((SB5.out.alloc _ _).step hb6);have hS6:=HSF.out w6 SB6.out;obtain⟨v7,w7,hrun,hrow7,hb7⟩:=cat_x (R5.out.step box_low) hrow6 hb6 HCL2.out.1;have AW7:=Lib.hid ((AW5.out.alloc _ _).stepB hb7 HSZ.out);have SB7:=Lib.hid ((SB5.out.alloc _ _).stepB hb7 (Nat.lt_succ_self _));have hS7:=HSF.out w7 SB7.out)
       | (have TT:=FB;go_at_call 52;(with_reducible refine(FB2.out w5 AW5.out.low FB.out).mono ?_);rintro r w6 ⟨y6,rfl,hrow6,hb6⟩;have AW6:=Lib.hid (AW5.out.step hb6);have SB6:=Lib.hid (SB5.out.step hb6);have hS6:=HSF.out w6 SB6.out;obtain⟨v7,w7,hrun,hrow7,hb7⟩:=cat_x R5.out hrow6 hb6 HCL2.out.1;have AW7:=Lib.hid (AW5.out.stepB hb7 HSZ.out);have SB7:=Lib.hid (SB5.out.stepB hb7 (Nat.lt_succ_self _));have hS7:=HSF.out w7 SB7.out)
       | (have TT:=FC;go_at_call 52;(with_reducible refine(FB3.out w5 AW5.out.low FC.out).mono ?_);rintro r w6 ⟨y6,rfl,hrow6,hb6⟩;have AW6:=Lib.hid (AW5.out.step hb6);have SB6:=Lib.hid (SB5.out.step hb6);have hS6:=HSF.out w6 SB6.out;obtain⟨v7,w7,hrun,hrow7,hb7⟩:=cat_x R5.out hrow6 hb6 HCL2.out.1;have AW7:=Lib.hid (AW5.out.stepB hb7 HSZ.out);have SB7:=Lib.hid (SB5.out.stepB hb7 (Nat.lt_succ_self _));have hS7:=HSF.out w7 SB7.out)
       | (go_at_call 51;(with_reducible refine FA1.out.mono ?_);rintro r w5 ⟨y5,rfl,hrow5,hb5⟩;have AW5:=Lib.hid (ADE.out.step hb5);have SB5:=Lib.hid (SDE.out.step hb5);have hS5:=HSF.out w5 SB5.out;have FA:=Lib.hid hb5;have R5:Hid (RowX wo.heap.size (vrEs n [s.p.e,s.p.v]) y5 w5):=Lib.hid ⟨_,by simp,hb5.size,hrow5⟩)
       | (go_at_call 51;(with_reducible refine FA2.out.mono ?_);rintro r w5 ⟨y5,rfl,hrow5,hb5⟩;have AW5:=Lib.hid (ADCE.out.step hb5);have SB5:=Lib.hid (SDCE.out.step hb5);have hS5:=HSF.out w5 SB5.out;have FB:Hid (Below (((wo.alloc (.cells cs.toArray 47)).drew).alloc (.cells #[.int .i64 s.p.c.kind,.slice u1 s.p.c.es.length k1,.slice u2 s.p.c.ks.length k2] 41)).heap.size (((wo.alloc (.cells cs.toArray 47)).drew).alloc (.cells #[.int .i64 s.p.c.kind,.slice u1 s.p.c.es.length k1,.slice u2 s.p.c.ks.length k2] 41)) w5):=Lib.hid (Below.trans box_low (Below.mono hb5 (by simp)));have R5:Hid (RowX wo.heap.size (vrEs n [s.p.e,s.p.v]) y5 w5):=Lib.hid ⟨_,by simp,hb5.size,hrow5⟩)
       | (go_at_call 51;(with_reducible refine FA3.out.mono ?_);rintro r w5 ⟨y5,rfl,hrow5,hb5⟩;have AW5:=Lib.hid (ADEC.out.step hb5);have SB5:=Lib.hid (SDEC.out.step hb5);have hS5:=HSF.out w5 SB5.out;have FC:Hid (Below ((((wo.alloc (.cells cs.toArray 47)).drew).alloc (.cells #[.int .i64 s.p.e.kind,.int .i64 s.p.e.n,.string s.p.e.name,.slice u3 s.p.e.ks.length k3,.int .i64 s.p.v.kind,.int .i64 s.p.v.n,.string s.p.v.name,.slice u4 s.p.v.ks.length k4] 37)).alloc (.cells #[.int .i64 s.p.c.kind,.slice u1 s.p.c.es.length k1,.slice u2 s.p.c.ks.length k2] 41)).heap.size ((((wo.alloc (.cells cs.toArray 47)).drew).alloc (.cells #[.int .i64 s.p.e.kind,.int .i64 s.p.e.n,.string s.p.e.name,.slice u3 s.p.e.ks.length k3,.int .i64 s.p.v.kind,.int .i64 s.p.v.n,.string s.p.v.name,.slice u4 s.p.v.ks.length k4] 37)).alloc (.cells #[.int .i64 s.p.c.kind,.slice u1 s.p.c.es.length k1,.slice u2 s.p.c.ks.length k2] 41)) w5):=Lib.hid hb5;have R5:Hid (RowX wo.heap.size (vrEs n [s.p.e,s.p.v]) y5 w5):=Lib.hid ⟨_,by simp,hb5.size,hrow5⟩))
    all_goals (
     go_wp2_with fail
     go_meet
     case rel=>exact⟨hrow7,AW7,SB7⟩)
   case rest=>
    obtain⟨hrx,haw,hsb⟩:=hcut
    obtain⟨wA,rfl⟩:∃x:World,x=wc:=⟨wc,rfl⟩
    have RA:=Lib.hid hrx.out
    have AA:=Lib.hid haw.out
    have SA:=Lib.hid hsb.out
    have k30:=SA.out.c 30 _ HH.out.args
    have F:=Lib.hid (HVA.out wA AA.out.low)
    have HHR:=Lib.hid (And.intro HH.out.name (And.intro HH.out.callee (And.intro HH.out.pa HH.out.ra)))
    clear hrx haw hsb HVE HVC HVA HSF AD ADE ADC ADCE ADEC SD SDE SDC SDCE SDEC hSD q4 q5 q6 q7 q8 q9 q10 q11 q12 q13 q14 A1 S1 AO HC0 HO HCL
    go_wp2_with fail
    refine F.out.mono ?_
    rintro r w3 ⟨y3,rfl,hrow3,hb3⟩
    obtain⟨v8,w8,hrun,hrow8,hb8⟩:=cat_x RA.out hrow3 hb3 HCL2.out.2
    have A8:=Lib.hid (AA.out.stepB hb8 HSZ.out)
    have S8:=Lib.hid (SA.out.stepB hb8 (Nat.lt_succ_self _))
    have R8:Hid (RowX wo.heap.size (rdS n s) v8 w8):=Lib.hid hrow8
    obtain⟨va,vc,hv8,_⟩:=hrow8.sits HLE.out.1
    obtain⟨L,hL⟩:∃L,(rdS n s).length=L:=⟨_,rfl⟩
    have HLL:=Lib.hid hL
    rw[show(vrEs n [s.p.e,s.p.v] ++ vrCs n [s.p.c] ++ vrEs n s.p.args).length=L from hL]at hv8
    have A80:Hid (AW w (.slice pa pm pc) ((n0 || nj) || ((rdS n s).take 0).any (fun x=>hasW x gh)) (c0 || cj) (p0 || pj) w8):=Lib.hid (by rw[show((rdS n s).take 0).any (fun x=>hasW x gh)=false from rfl,Bool.or_false];exact A8.out)
    subst hv8
    clear hrow3 hb3 hrow8 hb8 F RA AA SA k30 hL A8
    go_wp2_with (at_builtin;refine Lib.wpList_append_run _ rfl _ _ _ _ rfl _ _ rfl rfl _ _ (hrun _) ?_)
    clear hrun
    go_loopw [12] (fun t wr=>∃k:Nat,k≤L∧t= .int .i64 k∧Hid (AW w (.slice pa pm pc) ((n0 || nj) || ((rdS n s).take k).any (fun x=>hasW x gh)) (c0 || cj) (p0 || pj) wr)∧Hid (SB wo.heap.size cs wr)∧Hid (RowX wo.heap.size (rdS n s) (.slice va L vc) wr)) (fun t _=>L - (intOf t).toNat)
    case atStart=>exact⟨0,Nat.zero_le _,rfl,A80,S8,R8⟩
    case round=>
     clear A80 S8 R8
     obtain⟨k,hkl,rfl,haw,hsb,hrx⟩:=hrel
     obtain⟨wq,rfl⟩:∃wq:World,wq=wr:=⟨_,rfl⟩
     have AQ:=Lib.hid haw.out
     have SQ:=Lib.hid hsb.out
     have RQ:=Lib.hid hrx.out
     clear haw hsb hrx
     by_cases hlk:k<L
     ·have hki:(k:Int)<(L:Int):=by omega
      have hkx:k<(rdS n s).length:=by rw[HLL.out];exact hlk
      obtain⟨va2,vc2,e2,hsx⟩:=RQ.out.sits HLE.out.1
      injection e2 with e2 e2b e3
      clear e2b
      subst e2 e3
      obtain⟨b2,off2,cs2,rfl,hbl2,hc2,rfl,hsl2⟩:=hsx.2 k hkx
      have g0:=hc2 0 _ rfl
      rw[show strSh.k=1 from rfl,Nat.mul_one,Nat.add_zero]at g0
      have F:=Lib.hid (has_any16 (rdS n s)[k] ga gl gc gh wq HGL.out (HG.out.below AQ.out.low AQ.out.low.size))
      have HA2:=Lib.hid (any_snoc (p:=fun x=>hasW x gh) hkx)
      have hll:L≤1000:=by have:=HLE.out.1;have:=HLL.out;omega
      clear hsx hc2
      generalize (rdS n s)[k]=xk at*
      generalize ((rdS n s).take k).any (fun x=>hasW x gh)=z1 at*
      generalize hasW xk gh=z at*
      go_wp2_with fail
      refine F.out.mono ?_
      rintro r w5 ⟨rfl,hb5⟩
      have A5:=Lib.hid (AQ.out.step hb5)
      have S5:=Lib.hid (SQ.out.step hb5)
      have R5:=Lib.hid (RQ.out.step hb5)
      have a0:=A5.out.a0
      have f0:=A5.out.f 0
      have HNE:Hid (w.heap.size+1≤wo.heap.size):=Lib.hid (by have:=HSZ.out;omega)
      clear hb5 F AQ SQ RQ g0
      have AN:Hid (AW w (.slice pa pm pc) ((n0 || nj) || ((rdS n s).take (k+1)).any (fun x=>hasW x gh)) (c0 || cj) (p0 || pj) (w5.setCell ⟨w.heap.size+1,0,none⟩ (.bool (((n0 || nj) || z1) || z)))):=Lib.hid (by rw[HA2.out,←Bool.or_assoc];exact A5.out.set0 _)
      have SN:=Lib.hid (S5.out.set (b:=w.heap.size+1) (by have:=HNE.out;have:=HSZ.out;omega) 0 (.bool (((n0 || nj) || z1) || z)))
      have RN:=Lib.hid (R5.out.set (b:=w.heap.size+1) HNE.out 0 (.bool (((n0 || nj) || z1) || z)))
      clear HA2 A5 S5 R5
      generalize ((n0 || nj) || z1)=nb at*
      cases nb with
      | true=>
        go_wp2_with fail
        go_roundw
        case rel=>exact⟨k+1,by omega,by go_num,AN,SN,RN⟩
        case measure=>simp[intOf];omega
      | false=>
        go_wp2_with fail
        go_roundw
        case rel=>exact⟨k+1,by omega,by go_num,AN,SN,RN⟩
        case measure=>simp[intOf];omega
     ·obtain rfl:k=L:=by omega
      have hki:¬(k:Int)<(k:Int):=by omega
      rw[←HLL.out,List.take_length]at AQ
      have k0:=SQ.out.c 0 _ HH.out.kind
      go_upto_if 62 with fail
      go_cut [14] (fun v14 wx=>Hid (AW w (.slice pa pm pc) ((n0 || nj) || (rdS n s).any (fun x=>hasW x gh)) (c0 || cj) ((p0 || pj) || stP (n+1) s) wx)∧Hid (SB wo.heap.size cs wx))
      case first=>
       by_cases hk:s.p.kind=7
       ·have e7:(s.p.kind == 7)=true:=by rw[hk];rfl
        rw[e7]
        have F:=Lib.hid (part16_any n s.p.a ca wq (rel_low HHR.out.2.2.2 AQ.out.low))
        have LA:=Lib.hid (((assnSh n).len HHR.out.2.2.2).trans (assnSh_k _))
        have HP7:Hid (stP (n+1) s=prA n s.p.a):=Lib.hid (by rw[show stP (n+1) s=(s.p.kind == 7 && prA n s.p.a) from rfl,e7];rfl)
        have PA:=Lib.hid (SQ.out.part HHR.out.2.2.1)
        clear hk e7 k0
        go_wp2_with (first | go_skip | (refine wpList_load_w (by kernel_rfl) 44 _ rfl ⟨wo.heap.size,15,none⟩ rfl ca _ PA.out Tryz.underlying44 rfl (by rw[LA.out];kernel_rfl) ?_))
        refine F.out.mono ?_
        rintro r w5 ⟨rfl,hb5⟩
        have A5:=Lib.hid (AQ.out.step hb5)
        have S5:=Lib.hid (SQ.out.step hb5)
        have a2:=A5.out.a2
        have f2:=A5.out.f 2
        have AN:Hid (AW w (.slice pa pm pc) ((n0 || nj) || (rdS n s).any (fun x=>hasW x gh)) (c0 || cj) ((p0 || pj) || stP (n+1) s) (w5.setCell ⟨w.heap.size+1,2,none⟩ (.bool ((p0 || pj) || prA n s.p.a)))):=Lib.hid (by rw[HP7.out];exact A5.out.set2 _)
        have SN:=Lib.hid (S5.out.set (b:=w.heap.size+1) (by have:=HSZ.out;omega) 2 (.bool ((p0 || pj) || prA n s.p.a)))
        clear hb5 F AQ SQ HP7 A5 S5 PA
        generalize prA n s.p.a=z at*
        generalize hpb:(p0 || pj)=pb at a2 AN SN
        cases pb with
        | true=>
          go_wp2_with fail
          go_meet
          case rel=>exact⟨by rw[hpb];exact AN,SN⟩
        | false=>
          go_wp2_with fail
          go_meet
          case rel=>exact⟨by rw[hpb];exact AN,SN⟩
       ·have e7:(s.p.kind == 7)=false:=beq_eq_false_iff_ne.2 hk
        rw[e7]
        have AN:Hid (AW w (.slice pa pm pc) ((n0 || nj) || (rdS n s).any (fun x=>hasW x gh)) (c0 || cj) ((p0 || pj) || stP (n+1) s) wq):=Lib.hid (by rw[show stP (n+1) s=false from by rw[show stP (n+1) s=(s.p.kind == 7 && prA n s.p.a) from rfl,e7];rfl,Bool.or_false];exact AQ.out)
        clear hk e7
        go_wp2_with fail
        go_meet
        case rel=>exact⟨AN,SQ⟩
      case rest=>
      obtain⟨haw,hsb⟩:=hcut
      obtain⟨wB,rfl⟩:∃x:World,x=wc:=⟨wc,rfl⟩
      have AB:=Lib.hid haw.out
      have SB':=Lib.hid hsb.out
      clear haw hsb AQ SQ RQ k0
      have k0:=SB'.out.c 0 _ HH.out.kind
      go_upto_if 74 with fail
      go_cut [15] (fun v15 wx=>Hid (AW w (.slice pa pm pc) ((n0 || nj) || stN qs gh (n+1) s) ((c0 || cj) || stC qs (n+1) s) ((p0 || pj) || stP (n+1) s) wx)∧Hid (SB wo.heap.size cs wx))
      case first=>
       have HN9:Hid (stN qs gh (n+1) s=((rdS n s).any (fun x=>hasW x gh) || (s.p.kind == 9 && !calB s.p.callee qs))):=Lib.hid rfl
       have HC9:Hid (stC qs (n+1) s=(s.p.kind == 9 && (calB s.p.callee qs && !((calP s.p.callee qs == s.p.args.length) && (calG s.p.callee qs == s.p.ghosts.length))))):=Lib.hid rfl
       by_cases hk:s.p.kind=9
       ·have e9:(s.p.kind == 9)=true:=by rw[hk];rfl
        rw[e9]at HN9 HC9
        rw[e9]
        have F:=Lib.hid (rfind16_any nq s.p.callee pa pm pc qs wB HPM.out (HQ.out.below AB.out.low AB.out.low.size))
        have k3:=SB'.out.c 3 _ HH.out.callee
        have p4:=AB.out.p4
        clear hk e9 k0
        go_wp2_with fail
        refine F.out.mono ?_
        rintro r w5 ⟨rfl,hb5⟩
        have A5:=Lib.hid (AB.out.step hb5)
        have S5:=Lib.hid (SB'.out.step hb5)
        clear hb5 F AB SB' k3 p4
        by_cases hf:findN s.p.callee qs<qs.length
        ·have hfi:findI s.p.callee qs=(findN s.p.callee qs:Int):=if_pos hf
         rw[hfi]
         obtain⟨bp,offp,cp,rfl,hblp,hcp,hrp⟩:=HQ.out.2 _ hf
         obtain⟨cpa,cpb,p1,p2,p3,e1,e2,e3,HPr⟩:=proc_is hrp
         rw[procSh_k]at hcp
         have g1:=(A5.out.low.cell (p:=⟨bp,_,none⟩) hblp).trans (hcp 1 _ HPr.params)
         have g2:=(A5.out.low.cell (p:=⟨bp,_,none⟩) hblp).trans (hcp 2 _ HPr.ghosts)
         rw[←calP_pos hf]at g1
         rw[←calG_pos hf]at g2
         have hfm:(findN s.p.callee qs:Int)<(pm:Int):=by rw[←HPM.out];omega
         have k8:=S5.out.c 30 _ HH.out.args
         have k9:=S5.out.c 31 _ HH.out.ghosts
         have p4:=A5.out.p4
         have a1:=A5.out.a1
         have f1:=A5.out.f 1
         have hneg:¬((findN s.p.callee qs:Int)<0):=by omega
         rw[calB_pos hf]at HN9 HC9
         rw[Bool.not_true,Bool.and_false,Bool.or_false]at HN9
         rw[Bool.true_and,Bool.true_and]at HC9
         have HNE:Hid (w.heap.size+1≠wo.heap.size):=Lib.hid (by have:=HSZ.out;omega)
         clear hcp hrp HPr hf hfi
         generalize findN s.p.callee qs=fn at*
         generalize calP s.p.callee qs=P at*
         generalize calG s.p.callee qs=G at*
         generalize s.p.args.length=m1 at*
         generalize s.p.ghosts.length=m2 at*
         by_cases hP:P=m1
         ·by_cases hG:G=m2
          ·have AN:∀kd,Hid (AW w (.slice (some ⟨bp,offp,none⟩) pm pc) ((n0 || nj) || stN qs gh (n+1) s) ((c0 || cj) || stC qs (n+1) s) ((p0 || pj) || stP (n+1) s) (w5.drewN kd)):=fun kd=>Lib.hid (by rw[HN9.out,HC9.out,show(!((P == m1) && (G == m2)))=false from by simp[hP,hG],Bool.or_false];exact A5.out.step ⟨rfl,rfl,rfl,Nat.le_refl _,fun _ _=>rfl⟩)
           have SN:∀kd,Hid (SB wo.heap.size cs (w5.drewN kd)):=fun kd=>Lib.hid (S5.out.step ⟨rfl,rfl,rfl,Nat.le_refl _,fun _ _=>rfl⟩)
           subst hP hG
           go_wp2_with fail
           go_quiet (fail)
           go_wp2_with fail
           go_meet
           case rel=>exact⟨AN _,SN _⟩
          ·have AN:∀kd,Hid (AW w (.slice (some ⟨bp,offp,none⟩) pm pc) ((n0 || nj) || stN qs gh (n+1) s) ((c0 || cj) || stC qs (n+1) s) ((p0 || pj) || stP (n+1) s) ((w5.drewN kd).setCell ⟨w.heap.size+1,1,none⟩ (.bool true))):=fun kd=>Lib.hid (by rw[HN9.out,HC9.out,show(!((P == m1) && (G == m2)))=true from by simp[hP,hG],Bool.or_true];exact(A5.out.step ⟨rfl,rfl,rfl,Nat.le_refl _,fun _ _=>rfl⟩:AW _ _ _ _ _ (w5.drewN kd)).set1 _)
           have SN:∀kd,Hid (SB wo.heap.size cs ((w5.drewN kd).setCell ⟨w.heap.size+1,1,none⟩ (.bool true))):=fun kd=>Lib.hid ((S5.out.step ⟨rfl,rfl,rfl,Nat.le_refl _,fun _ _=>rfl⟩:SB _ _ (w5.drewN kd)).set HNE.out 1 (.bool true))
           have hG1:((G:Int) != (m2:Int))=true:=by simp;omega
           have hG2:((G:Int) == (m2:Int))=false:=by simp;omega
           have hG3:(G == m2)=false:=by simp[hG]
           have hG4:(G != m2)=true:=by simp[hG]
           subst hP
           go_wp2_with fail
           go_quiet (fail)
           go_wp2_with fail
           go_meet
           case rel=>exact⟨AN _,SN _⟩
         ·have AN:∀kd,Hid (AW w (.slice (some ⟨bp,offp,none⟩) pm pc) ((n0 || nj) || stN qs gh (n+1) s) ((c0 || cj) || stC qs (n+1) s) ((p0 || pj) || stP (n+1) s) ((w5.drewN kd).setCell ⟨w.heap.size+1,1,none⟩ (.bool true))):=fun kd=>Lib.hid (by rw[HN9.out,HC9.out,show(!((P == m1) && (G == m2)))=true from by simp[hP],Bool.or_true];exact(A5.out.step ⟨rfl,rfl,rfl,Nat.le_refl _,fun _ _=>rfl⟩:AW _ _ _ _ _ (w5.drewN kd)).set1 _)
          have SN:∀kd,Hid (SB wo.heap.size cs ((w5.drewN kd).setCell ⟨w.heap.size+1,1,none⟩ (.bool true))):=fun kd=>Lib.hid ((S5.out.step ⟨rfl,rfl,rfl,Nat.le_refl _,fun _ _=>rfl⟩:SB _ _ (w5.drewN kd)).set HNE.out 1 (.bool true))
          have hG1:((P:Int) != (m1:Int))=true:=by simp;omega
          have hG2:((P:Int) == (m1:Int))=false:=by simp;omega
          have hG3:(P == m1)=false:=by simp[hP]
          have hG4:(P != m1)=true:=by simp[hP]
          go_wp2_with fail
          go_quiet (fail)
          go_wp2_with fail
          go_meet
          case rel=>exact⟨AN _,SN _⟩
        ·have hfi:findI s.p.callee qs= -1:=if_neg hf
         rw[hfi]
         rw[calB_neg hf]at HN9 HC9
         have a0:=A5.out.a0
         have f0:=A5.out.f 0
         have AN:Hid (AW w (.slice pa pm pc) ((n0 || nj) || stN qs gh (n+1) s) ((c0 || cj) || stC qs (n+1) s) ((p0 || pj) || stP (n+1) s) (w5.setCell ⟨w.heap.size+1,0,none⟩ (.bool true))):=Lib.hid (by rw[HN9.out,HC9.out,show((n0 || nj) || ((rdS n s).any (fun x=>hasW x gh) || (true && !false)))=true from by simp,show((c0 || cj) || (true && (false && !((calP s.p.callee qs == s.p.args.length) && (calG s.p.callee qs == s.p.ghosts.length)))))=(c0 || cj) from by simp];exact A5.out.set0 _)
         have SN:=Lib.hid (S5.out.set (b:=w.heap.size+1) (by have:=HSZ.out;omega) 0 (.bool true))
         clear A5 S5 hf hfi
         go_wp2_with fail
         go_meet
         case rel=>exact⟨AN,SN⟩
       ·have e9:(s.p.kind == 9)=false:=beq_eq_false_iff_ne.2 hk
        rw[e9]at HN9 HC9
        rw[e9]
        have AN:Hid (AW w (.slice pa pm pc) ((n0 || nj) || stN qs gh (n+1) s) ((c0 || cj) || stC qs (n+1) s) ((p0 || pj) || stP (n+1) s) wB):=Lib.hid (by rw[HN9.out,HC9.out,Bool.false_and,Bool.or_false,Bool.false_and,Bool.or_false];exact AB.out)
        clear hk e9
        go_wp2_with fail
        go_meet
        case rel=>exact⟨AN,SB'⟩
      case rest=>
      obtain⟨haw,hsb⟩:=hcut
      obtain⟨wD,rfl⟩:∃x:World,x=wc:=⟨wc,rfl⟩
      have AC:=Lib.hid haw.out
      have SC:=Lib.hid hsb.out
      clear haw hsb AB SB' k0
      have k33:=SC.out.c 33 _ HH.out.body
      have F1:=Lib.hid (HKJ.out s.body u8 d8 wD ((n0 || nj) || stN qs gh (n+1) s) ((c0 || cj) || stC qs (n+1) s) ((p0 || pj) || stP (n+1) s) (.inl rfl) AC.out.low (HH.out.rbody.below AC.out.low AC.out.low.size))
      have HF2:=Lib.hid (fun W n1 c1 p1 (hW:Below w.heap.size w W)=>HKJ.out s.els u9 d9 W n1 c1 p1 (.inr rfl) hW (HH.out.rels.below hW hW.size))
      have HE34:=Lib.hid HH.out.els
      have p4:=AC.out.p4
      have a0:=AC.out.a0
      have a1:=AC.out.a1
      have a2:=AC.out.a2
      have HNE:Hid (w.heap.size+1≠wo.heap.size):=Lib.hid (by have:=HSZ.out;omega)
      have HEN:Hid ((n0 || (nj || anT (stN qs gh) (n+1) s))=((((n0 || nj) || stN qs gh (n+1) s) || ans (stN qs gh) n s.body) || ans (stN qs gh) n s.els)):=Lib.hid (by rw[anT_succ];simp only[Bool.or_assoc])
      have HEC:Hid ((c0 || (cj || anT (stC qs) (n+1) s))=((((c0 || cj) || stC qs (n+1) s) || ans (stC qs) n s.body) || ans (stC qs) n s.els)):=Lib.hid (by rw[anT_succ];simp only[Bool.or_assoc])
      have HEP:Hid ((p0 || (pj || anT stP (n+1) s))=((((p0 || pj) || stP (n+1) s) || ans stP n s.body) || ans stP n s.els)):=Lib.hid (by rw[anT_succ];simp only[Bool.or_assoc])
      rw[←HSN.out.1]at HEN
      rw[←HSN.out.2.1]at HEC
      rw[←HSN.out.2.2]at HEP
      clear HKJ HH HSN HHR HLE HCL2
      generalize ((n0 || nj) || stN qs gh (n+1) s)=n1 at*
      generalize ((c0 || cj) || stC qs (n+1) s)=c1 at*
      generalize ((p0 || pj) || stP (n+1) s)=p1 at*
      generalize ans (stN qs gh) n s.body=n2 at*
      generalize ans (stC qs) n s.body=c2 at*
      generalize ans stP n s.body=p2 at*
      generalize ans (stN qs gh) n s.els=n3 at*
      generalize ans (stC qs) n s.els=c3 at*
      generalize ans stP n s.els=p3 at*
      generalize s.body.length=lb at*
      generalize s.els.length=le at*
      go_wp2_with fail
      refine F1.out.mono ?_
      rintro r w5 ⟨rfl,hb5⟩
      have A5:=Lib.hid (AC.out.step hb5)
      have S5:=Lib.hid (SC.out.step hb5)
      have A6:=Lib.hid (((A5.out.set0 (n1 || n2)).set1 (c1 || c2)).set2 (p1 || p2))
      have S6:=Lib.hid (((S5.out.set HNE.out 0 (.bool (n1 || n2))).set HNE.out 1 (.bool (c1 || c2))).set HNE.out 2 (.bool (p1 || p2)))
      clear k33 p4 a0 a1 a2 hb5 F1 AC SC
      have b0:=A5.out.a0
      have b1:=A5.out.a1
      have b2':=A5.out.a2
      have f0:=A5.out.f
      have k34:=S6.out.c 34 _ HE34.out
      have p4:=A6.out.p4
      have a0:=A6.out.a0
      have a1:=A6.out.a1
      have a2:=A6.out.a2
      clear A5 S5
      generalize (n1 || n2)=n12 at*
      generalize (c1 || c2)=c12 at*
      generalize (p1 || p2)=p12 at*
      have F2:=Lib.hid (HF2.out _ n12 c12 p12 A6.out.low)
      go_wp2_with fail
      refine F2.out.mono ?_
      rintro r w7 ⟨rfl,hb7⟩
      have A7:=Lib.hid (A6.out.step hb7)
      have A8:=Lib.hid (((A7.out.set0 (n12 || n3)).set1 (c12 || c3)).set2 (p12 || p3))
      have b0:=A7.out.a0
      have b1:=A7.out.a1
      have b2':=A7.out.a2
      have f0:=A7.out.f
      have AN:Hid (AW w (.slice pa pm pc) (n0 || ans (stN qs gh) (n+1) (es.take (j+1))) (c0 || ans (stC qs) (n+1) (es.take (j+1))) (p0 || ans stP (n+1) (es.take (j+1))) _):=Lib.hid (by rw[HEN.out,HEC.out,HEP.out];exact A8.out)
      clear k34 p4 a0 a1 a2 hb7 F2 A7 A6 S6 HF2 A8 HEN HEC HEP
      go_wp2_with fail
      go_roundw
      case rel=>exact⟨j+1,by omega,by go_num,AN⟩
      case measure=>simp[intOf];omega
  ·obtain rfl:j=m:=by omega
   have hji:¬(j:Int)<(j:Int):=by omega
   rw[←HM.out,List.take_length]at AO
   have a0:=AO.out.a0
   have a1:=AO.out.a1
   have a2:=AO.out.a2
   have r0:=AO.out.r 0 (by omega)
   have r1:=AO.out.r 1 (by omega)
   have r2:=AO.out.r 2 (by omega)
   have rf:=AO.out.rf
   have HB:Hid (Below w.heap.size w (((wo.setCell ⟨w.heap.size+1+1,0,none⟩ (.bool (n0 || ans (stN qs gh) (n+1) es))).setCell ⟨w.heap.size+1+1,1,none⟩ (.bool (c0 || ans (stC qs) (n+1) es))).setCell ⟨w.heap.size+1+1,2,none⟩ (.bool (p0 || ans stP (n+1) es)))):=Lib.hid (((AO.out.low.setCell (p:=⟨w.heap.size+1+1,0,none⟩) (by show w.heap.size≤w.heap.size+1+1;omega) _).setCell (p:=⟨w.heap.size+1+1,1,none⟩) (by show w.heap.size≤w.heap.size+1+1;omega) _).setCell (p:=⟨w.heap.size+1+1,2,none⟩) (by show w.heap.size≤w.heap.size+1+1;omega) _)
   generalize (n0 || ans (stN qs gh) (n+1) es)=zn at*
   generalize (c0 || ans (stC qs) (n+1) es)=zc at*
   generalize (p0 || ans stP (n+1) es)=zp at*
   go_wp2_with fail
   refine bodyPost_ret (v:= .agg #[.bool zn,.bool zc,.bool zp]) (results_cell rfl _ _ _ ⟨w.heap.size+1+1,0,none⟩ _ rfl (run_loadVar_list (P:=Tryz.prog) _ ⟨w.heap.size+1+1,0,none⟩ 64 [.bool zn,.bool zc,.bool zp] _ (fun o v hv=> ?_) Tryz.underlying64 rfl (by kernel_rfl))) rfl ⟨rfl,HB.out⟩
   rcases o with _ | _ | _ | o
   ·cases hv;simp[go_sem,Addr.add,r0,r1,r2]
   ·cases hv;simp[go_sem,Addr.add,r0,r1,r2]
   ·cases hv;simp[go_sem,Addr.add,r0,r1,r2]
   ·cases hv
theorem nstmts_any (nq:Nat)(qs:List QT)(gh:List ByteArray)(pa ga:Option Addr)(pc gc:Nat):∀(n:Nat) (es:List ST) (a:Option Addr) (cap:Nat) (n0 c0 p0:Bool) (w:World),ptTs n es≤1000→Pak.Sits (stmtSh n) (Pak.Lo w.heap.size) w a es→Pak.Sits (procSh nq) (Pak.Lo w.heap.size) w pa qs→Pak.Sits strSh (Pak.Lo w.heap.size) w ga gh→
 Calls Tryz.prog 19 #[.agg #[.slice pa qs.length pc],.slice ga gh.length gc,.slice a es.length cap,.agg #[.bool n0,.bool c0,.bool p0]] w (AmEnd (n0 || ans (stN qs gh) n es) (c0 || ans (stC qs) n es) (p0 || ans stP n es) w)
 | 0,es,a,cap,n0,c0,p0,w,hp,hs,hq,hg=>by
   have he:es=[]:=by
    cases es with
    | nil=>rfl
    | cons x xs=>
      obtain⟨_,_,_,_,_,_,hr⟩:=hs.2 0 (by simp)
      exact hr.elim
   subst he
   exact nstmts_box 0 nq qs gh [] pa ga a qs.length pc gh.length gc 0 cap n0 c0 p0 w rfl rfl rfl (by simp[ptTs]) (Pak.Sits.nil _ _ _ _) hq hg fun x t u c W n1 c1 p1 hx=>absurd hx (by simp)
 | n+1,es,a,cap,n0,c0,p0,w,hp,hs,hq,hg=>
   nstmts_box n nq qs gh es pa ga a qs.length pc gh.length gc es.length cap n0 c0 p0 w rfl rfl rfl hp hs hq hg fun x t u c W n1 c1 p1 hx ht hW hst=>nstmts_any nq qs gh pa ga pc gc n t u c n1 c1 p1 W (by
    obtain⟨q,hq,rfl⟩:=List.getElem_of_mem hx
    have h1:=ptTs_take (n:=n+1) hq
    have h2:=ptT_succ n es[q]
    rcases ht with rfl | rfl<;>omega) hst (hq.below hW hW.size) (hg.below hW hW.size)
end
end Go.Proofs.YtfcaclmcnlflfaaGreatDoor
