/- Parts of a proof. -/
import Derived.Test.YtjbkhdbjdahbiaaGreatDoorQ09
import Derived.Test.YtjbkhdbjdahbiaaGreatDoorQ17
import Derived.Test.YtjbkhdbjdahbiaaGreatDoorQ18
set_option linter.unusedVariables false
set_option linter.unusedSimpArgs false
set_option maxHeartbeats 60000000
set_option maxRecDepth 100000
namespace Go.Proofs.YtjbkhdbjdahbiaaGreatDoor
section
open Go.RowKit
structure C6 (V:World)(g:Nat)(c:CK)(b1:Option Addr)(m1:Nat)(b2:Option Addr)(m2:Nat):Prop where
 cells:V.cell? ⟨g,0,none⟩=some (.int .i64 c.a.1)∧V.cell? ⟨g,1,none⟩=some (.slice b1 c.a.2.length m1)∧V.cell? ⟨g,2,none⟩=some (.string c.f)∧V.cell? ⟨g,3,none⟩=some (.int .i64 c.n)∧V.cell? ⟨g,4,none⟩=some (.int .i64 c.v.1)∧V.cell? ⟨g,5,none⟩=some (.slice b2 c.v.2.length m2)
 lt:g<V.heap.size
theorem c6_new {w:World}{c:CK}{b1 b2:Option Addr}{m1 m2:Nat}{t:TypeId}:C6 (w.alloc (.cells #[.int .i64 c.a.1,.slice b1 c.a.2.length m1,.string c.f,.int .i64 c.n,.int .i64 c.v.1,.slice b2 c.v.2.length m2] t)) w.heap.size c b1 m1 b2 m2:=by
 have h:=heap_alloc_new w (.cells #[.int .i64 c.a.1,.slice b1 c.a.2.length m1,.string c.f,.int .i64 c.n,.int .i64 c.v.1,.slice b2 c.v.2.length m2] t)
 exact⟨⟨(cell_of_row _ _ _ _ _ _ h).trans rfl,(cell_of_row _ _ _ _ _ _ h).trans rfl,(cell_of_row _ _ _ _ _ _ h).trans rfl,(cell_of_row _ _ _ _ _ _ h).trans rfl,(cell_of_row _ _ _ _ _ _ h).trans rfl,(cell_of_row _ _ _ _ _ _ h).trans rfl⟩,by simp⟩
theorem C6.below {B:Nat}{V V':World}{g:Nat}{c:CK}{b1 b2:Option Addr}{m1 m2:Nat}(h:C6 V g c b1 m1 b2 m2)(hb:Below B V V')(hg:g<B):C6 V' g c b1 m1 b2 m2:=by
 obtain⟨⟨c0,c1,c2,c3,c4,c5⟩,lt⟩:=h
 exact⟨⟨(hb.cell (p:=⟨g,_,none⟩) hg).trans c0,(hb.cell (p:=⟨g,_,none⟩) hg).trans c1,(hb.cell (p:=⟨g,_,none⟩) hg).trans c2,(hb.cell (p:=⟨g,_,none⟩) hg).trans c3,(hb.cell (p:=⟨g,_,none⟩) hg).trans c4,(hb.cell (p:=⟨g,_,none⟩) hg).trans c5⟩,Nat.lt_of_lt_of_le lt hb.size⟩
theorem own_fm1 {w:World}{n B:Nat}{f:Lf.FT}{c0 c1 c2 c3:Value}(hB:B≤w.heap.size)(h:Lf.FLiesS (fun b=>b<w.heap.size) w n f [c0,c1,c2,c3]):OwnL (frmSh n) 38 B [f] (.slice (some ⟨w.heap.size,0,none⟩) 1 1) (w.alloc (.cells #[c0,c1,c2,c3] 38)):=by
 refine⟨⟨[[c0,c1,c2,c3]],rfl,⟨rfl,.inr ⟨w.heap.size,1,_,rfl,hB,heap_alloc_new _ _,Nat.le_refl _,by decide,rfl,rfl⟩⟩,fun i hi hi2=> ?_⟩⟩
 obtain rfl:i=0:=by simp at hi;omega
 exact h.keep (fun b hb=>⟨Nat.lt_of_lt_of_le hb box_low.size,fun e=>(by have e2:w.heap.size=b:=(by simpa [Value.ownBlock]using e);omega)⟩) (fun b o hb=>box_low.cell (p:=⟨b,o,none⟩) hb)
theorem part_relQ {w W:World}{c:Int}{l:List (Int×Int)}{a:Option Addr}{k:Nat}{kv:Value}(hb:Below w.heap.size w W)(h:Lf.Lies w.heap.size w a l)(hl:l.length*16≤140737488355328)(hn:a=none→l.length=0∧k=0)(ho:∀b,kv.ownBlock=some b→w.heap.size≤b):LinRel (fun b=>b<W.heap.size∧kv.ownBlock≠some b) W (.int .i64 c) (.slice a l.length k) (c,l):=
 (linRel_of (h.below hb) (by omega) hn).keep (fun b h=>⟨Nat.lt_of_lt_of_le h hb.size,fun e=>absurd (ho b e) (Nat.not_le_of_lt h)⟩) (fun _ _ _=>rfl)
theorem sd_unit:Sd (1,[]):=by
 unfold Sd
 rw[Lf.snd_iff]
 exact⟨by decide,by decide,fun i hi=>absurd hi (Nat.not_lt_zero i)⟩
structure CkIn (w:World)(c:CK)(b1:Option Addr)(m1:Nat)(b2:Option Addr)(m2:Nat):Prop where
 la:Lf.Lies w.heap.size w b1 c.a.2
 na:b1=none→c.a.2.length=0∧m1=0
 lv:Lf.Lies w.heap.size w b2 c.v.2
 nv:b2=none→c.v.2.length=0∧m2=0
 hf:c.f.size≤maxLen
 hn:Lt40 c.n
 sa:c.a.2.length*16≤140737488355328
 sv:c.v.2.length*16≤140737488355328
theorem CkIn.below {w W:World}{c:CK}{b1 b2:Option Addr}{m1 m2:Nat}(h:CkIn w c b1 m1 b2 m2)(hb:Below w.heap.size w W):CkIn W c b1 m1 b2 m2:=
 ⟨(h.la.below hb).mono hb.size,h.na,(h.lv.below hb).mono hb.size,h.nv,h.hf,h.hn,h.sa,h.sv⟩
theorem OwnL.monoB {T:Type}{sh:Pak.Sh T}{e:TypeId}{B B':Nat}{xs:List T}{v:Value}{w:World}(h:OwnL sh e B xs v w)(hB:B'≤B):OwnL sh e B' xs v w:=by
 obtain⟨css,h1,h2,h3⟩:=h.row
 exact⟨⟨css,h1,Joins.ownsRow_le h2 hB,h3⟩⟩
def FactsEnd (r:List Lf.FT×Int)(w:World)(e:Ending)(w':World):Prop:=∃v,e= .returned (.tuple #[v,erV r.2])∧OwnL (frmSh 3) 38 w.heap.size r.1 v w'∧Below w.heap.size w w'
theorem facts_any (la:Option Addr)(ln lcap:Nat)(xs:List CK)(c:CK)(b1 b2:Option Addr)(m1 m2:Nat)(w:World)(hs:Pak.Sits ckSh (Pak.Lo w.heap.size) w la xs)(hm:xs.length=ln)(hl:ln≤60)(hN:∀x∈xs,NB x)(hb:∀x∈xs,x.a.2.length*16≤140737488355328∧x.v.2.length*16≤140737488355328)(hc:CkIn w c b1 m1 b2 m2):
 Calls Tryz.prog 9 #[.slice la ln lcap,.agg #[.int .i64 c.a.1,.slice b1 c.a.2.length m1,.string c.f,.int .i64 c.n,.int .i64 c.v.1,.slice b2 c.v.2.length m2]] w (FactsEnd (factsK xs c) w):=by
 have n1:=fun W=>Tryz.neNil W
 have n2:=fun t v W=>Tryz.neIface t v W
 obtain⟨L,hL⟩:∃L,L=ln+1:=⟨_,rfl⟩
 have HLL:=Lib.hid hL
 have HCI:=Lib.hid hc
 have HM:=Lib.hid hm
 have HLN:=Lib.hid hl
 have HS:=Lib.hid hs
 have HNB:=Lib.hid hN
 have HBD:=Lib.hid hb
 have HBW:Hid (Below w.heap.size w (w.alloc (.cells #[.int .i64 c.a.1,.slice b1 c.a.2.length m1,.string c.f,.int .i64 c.n,.int .i64 c.v.1,.slice b2 c.v.2.length m2] 27))):=Lib.hid box_low
 have HC0:Hid (C6 (w.alloc (.cells #[.int .i64 c.a.1,.slice b1 c.a.2.length m1,.string c.f,.int .i64 c.n,.int .i64 c.v.1,.slice b2 c.v.2.length m2] 27)) w.heap.size c b1 m1 b2 m2):=Lib.hid c6_new
 have HCD:Hid (C6 (w.alloc (.cells #[.int .i64 c.a.1,.slice b1 c.a.2.length m1,.string c.f,.int .i64 c.n,.int .i64 c.v.1,.slice b2 c.v.2.length m2] 27)).drew w.heap.size c b1 m1 b2 m2):=Lib.hid (HC0.out.below ((Below.refl _ _).drew) HC0.out.lt)
 have HCL:Hid (Calls Tryz.prog 29 #[.slice la ln lcap] (w.alloc (.cells #[.int .i64 c.a.1,.slice b1 c.a.2.length m1,.string c.f,.int .i64 c.n,.int .i64 c.v.1,.slice b2 c.v.2.length m2] 27)).drew (CksEnd (w.alloc (.cells #[.int .i64 c.a.1,.slice b1 c.a.2.length m1,.string c.f,.int .i64 c.n,.int .i64 c.v.1,.slice b2 c.v.2.length m2] 27)).drew.heap.size xs (w.alloc (.cells #[.int .i64 c.a.1,.slice b1 c.a.2.length m1,.string c.f,.int .i64 c.n,.int .i64 c.v.1,.slice b2 c.v.2.length m2] 27)).drew)):=Lib.hid (clone_cks la ln lcap xs _ hm (by omega) (hs.below HBW.out.drew HBW.out.drew.size))
 have HARM:Hid (∀v3 w3,OwnL ckSh 27 (w.alloc (.cells #[.int .i64 c.a.1,.slice b1 c.a.2.length m1,.string c.f,.int .i64 c.n,.int .i64 c.v.1,.slice b2 c.v.2.length m2] 27)).drew.heap.size xs v3 w3→Below (w.alloc (.cells #[.int .i64 c.a.1,.slice b1 c.a.2.length m1,.string c.f,.int .i64 c.n,.int .i64 c.v.1,.slice b2 c.v.2.length m2] 27)).drew.heap.size (w.alloc (.cells #[.int .i64 c.a.1,.slice b1 c.a.2.length m1,.string c.f,.int .i64 c.n,.int .i64 c.v.1,.slice b2 c.v.2.length m2] 27)).drew w3→∃a7 c7 w7,(∀ty,(Builtin.append_ #[22,22] ty #[v3,.slice (some ⟨w3.heap.size,0,none⟩) 1 1]).run Tryz.prog (w3.alloc (.cells #[.int .i64 c.a.1,.slice b1 c.a.2.length m1,.string c.f,.int .i64 c.n,.int .i64 c.v.1,.slice b2 c.v.2.length m2] 27))= .ok (.slice a7 L c7) w7)∧(Pak.Sits ckSh (Pak.Lo w7.heap.size) w7 a7 (xs ++ [c])∧Below w.heap.size w w7∧C6 w7 w.heap.size c b1 m1 b2 m2)∧(w7.cell? ⟨w.heap.size,0,none⟩=some (.int .i64 c.a.1)∧w7.cell? ⟨w.heap.size,1,none⟩=some (.slice b1 c.a.2.length m1)∧w7.cell? ⟨w.heap.size,2,none⟩=some (.string c.f)∧w7.cell? ⟨w.heap.size,3,none⟩=some (.int .i64 c.n)∧w7.cell? ⟨w.heap.size,4,none⟩=some (.int .i64 c.v.1)∧w7.cell? ⟨w.heap.size,5,none⟩=some (.slice b2 c.v.2.length m2))∧((w3.alloc (.cells #[.int .i64 c.a.1,.slice b1 c.a.2.length m1,.string c.f,.int .i64 c.n,.int .i64 c.v.1,.slice b2 c.v.2.length m2] 27)).cell? ⟨w.heap.size,0,none⟩=some (.int .i64 c.a.1)∧(w3.alloc (.cells #[.int .i64 c.a.1,.slice b1 c.a.2.length m1,.string c.f,.int .i64 c.n,.int .i64 c.v.1,.slice b2 c.v.2.length m2] 27)).cell? ⟨w.heap.size,1,none⟩=some (.slice b1 c.a.2.length m1)∧(w3.alloc (.cells #[.int .i64 c.a.1,.slice b1 c.a.2.length m1,.string c.f,.int .i64 c.n,.int .i64 c.v.1,.slice b2 c.v.2.length m2] 27)).cell? ⟨w.heap.size,2,none⟩=some (.string c.f)∧(w3.alloc (.cells #[.int .i64 c.a.1,.slice b1 c.a.2.length m1,.string c.f,.int .i64 c.n,.int .i64 c.v.1,.slice b2 c.v.2.length m2] 27)).cell? ⟨w.heap.size,3,none⟩=some (.int .i64 c.n)∧(w3.alloc (.cells #[.int .i64 c.a.1,.slice b1 c.a.2.length m1,.string c.f,.int .i64 c.n,.int .i64 c.v.1,.slice b2 c.v.2.length m2] 27)).cell? ⟨w.heap.size,4,none⟩=some (.int .i64 c.v.1)∧(w3.alloc (.cells #[.int .i64 c.a.1,.slice b1 c.a.2.length m1,.string c.f,.int .i64 c.n,.int .i64 c.v.1,.slice b2 c.v.2.length m2] 27)).cell? ⟨w.heap.size,5,none⟩=some (.slice b2 c.v.2.length m2))∧(w3.cell? ⟨w.heap.size,0,none⟩=some (.int .i64 c.a.1)∧w3.cell? ⟨w.heap.size,1,none⟩=some (.slice b1 c.a.2.length m1)∧w3.cell? ⟨w.heap.size,2,none⟩=some (.string c.f)∧w3.cell? ⟨w.heap.size,3,none⟩=some (.int .i64 c.n)∧w3.cell? ⟨w.heap.size,4,none⟩=some (.int .i64 c.v.1)∧w3.cell? ⟨w.heap.size,5,none⟩=some (.slice b2 c.v.2.length m2))):=Lib.hid fun v3 w3 hrow hb3=>by
  have hsz:(w.alloc (.cells #[.int .i64 c.a.1,.slice b1 c.a.2.length m1,.string c.f,.int .i64 c.n,.int .i64 c.v.1,.slice b2 c.v.2.length m2] 27)).drew.heap.size=w.heap.size+1:=by simp
  have hbw:=HBW.out.drew.trans (hb3.mono HBW.out.drew.size)
  have hob:∀b,v3.ownBlock=some b→w.heap.size+1≤b:=fun b h=>by
   obtain⟨css,_,h2,_⟩:=hrow.row
   have:=(World.ownsRow.lt h2 b h).1
   omega
  have c3:=HCD.out.below hb3 (by rw[hsz];omega)
  obtain⟨v7,w7,p1,p2,p3,p4⟩:=run_push_ck (w:=w3) (w.alloc (.cells #[.int .i64 c.a.1,.slice b1 c.a.2.length m1,.string c.f,.int .i64 c.n,.int .i64 c.v.1,.slice b2 c.v.2.length m2] 27)).drew.heap.size xs c v3 _ _ hrow hb3.size HCI.out.hf (by have:=HCI.out.hn;unfold Lt40 at this;unfold i64;omega) (part_relQ (k:=m1) hbw HCI.out.la HCI.out.sa HCI.out.na (fun b h=>by have:=hob b h;omega)) (part_relQ (k:=m2) hbw HCI.out.lv HCI.out.sv HCI.out.nv (fun b h=>by have:=hob b h;omega)) (by rw[HM.out];have:=HLN.out;omega)
  obtain⟨a7,k7,rfl,s7⟩:=p2.sits (by rw[List.length_append,HM.out,List.length_singleton];have:=HLN.out;omega)
  rw[List.length_append,HM.out,List.length_singleton,←HLL.out]at p1
  have c7:C6 w7 w.heap.size c b1 m1 b2 m2:=c3.below p3 (by rw[hsz];omega)
  exact⟨a7,k7,w7,p1,⟨s7,(hbw.trans (p3.mono (by rw[hsz];omega))),c7⟩,c7.cells,(c3.below (box_low (cs:= #[.int .i64 c.a.1,.slice b1 c.a.2.length m1,.string c.f,.int .i64 c.n,.int .i64 c.v.1,.slice b2 c.v.2.length m2]) (t:=27)) c3.lt).cells,c3.cells⟩
 have HB2:Hid (Below w.heap.size w (((w.alloc (.cells #[.int .i64 c.a.1,.slice b1 c.a.2.length m1,.string c.f,.int .i64 c.n,.int .i64 c.v.1,.slice b2 c.v.2.length m2] 27)).alloc (.cells #[.int .i64 c.a.1,.slice b1 c.a.2.length m1,.string c.f,.int .i64 c.n,.int .i64 c.v.1,.slice b2 c.v.2.length m2] 27)).drew)):=Lib.hid ((HBW.out.alloc HBW.out.size _).drew)
 have HCV0:Hid (C6 ((w.alloc (.cells #[.int .i64 c.a.1,.slice b1 c.a.2.length m1,.string c.f,.int .i64 c.n,.int .i64 c.v.1,.slice b2 c.v.2.length m2] 27)).alloc (.cells #[.int .i64 c.a.1,.slice b1 c.a.2.length m1,.string c.f,.int .i64 c.n,.int .i64 c.v.1,.slice b2 c.v.2.length m2] 27)) w.heap.size c b1 m1 b2 m2):=Lib.hid (HC0.out.below box_low HC0.out.lt)
 have HCV:Hid (C6 (((w.alloc (.cells #[.int .i64 c.a.1,.slice b1 c.a.2.length m1,.string c.f,.int .i64 c.n,.int .i64 c.v.1,.slice b2 c.v.2.length m2] 27)).alloc (.cells #[.int .i64 c.a.1,.slice b1 c.a.2.length m1,.string c.f,.int .i64 c.n,.int .i64 c.v.1,.slice b2 c.v.2.length m2] 27)).drew) w.heap.size c b1 m1 b2 m2):=Lib.hid (HCV0.out.below ((Below.refl _ _).drew) HCV0.out.lt)
 have HCN0:Hid (C6 ((w.alloc (.cells #[.int .i64 c.a.1,.slice b1 c.a.2.length m1,.string c.f,.int .i64 c.n,.int .i64 c.v.1,.slice b2 c.v.2.length m2] 27)).alloc (.cells #[.int .i64 c.a.1,.slice b1 c.a.2.length m1,.string c.f,.int .i64 c.n,.int .i64 c.v.1,.slice b2 c.v.2.length m2] 27)) (w.heap.size+1) c b1 m1 b2 m2):=Lib.hid (by
  have h:=c6_new (w:=(w.alloc (.cells #[.int .i64 c.a.1,.slice b1 c.a.2.length m1,.string c.f,.int .i64 c.n,.int .i64 c.v.1,.slice b2 c.v.2.length m2] 27))) (c:=c) (b1:=b1) (m1:=m1) (b2:=b2) (m2:=m2) (t:=27)
  rw[show(w.alloc (.cells #[.int .i64 c.a.1,.slice b1 c.a.2.length m1,.string c.f,.int .i64 c.n,.int .i64 c.v.1,.slice b2 c.v.2.length m2] 27)).heap.size=w.heap.size+1 from by simp]at h
  exact h)
 have HCN:Hid (C6 (((w.alloc (.cells #[.int .i64 c.a.1,.slice b1 c.a.2.length m1,.string c.f,.int .i64 c.n,.int .i64 c.v.1,.slice b2 c.v.2.length m2] 27)).alloc (.cells #[.int .i64 c.a.1,.slice b1 c.a.2.length m1,.string c.f,.int .i64 c.n,.int .i64 c.v.1,.slice b2 c.v.2.length m2] 27)).drew) (w.heap.size+1) c b1 m1 b2 m2):=Lib.hid (HCN0.out.below ((Below.refl _ _).drew) HCN0.out.lt)
 have HCL2:Hid (Calls Tryz.prog 29 #[.slice la ln lcap] (((w.alloc (.cells #[.int .i64 c.a.1,.slice b1 c.a.2.length m1,.string c.f,.int .i64 c.n,.int .i64 c.v.1,.slice b2 c.v.2.length m2] 27)).alloc (.cells #[.int .i64 c.a.1,.slice b1 c.a.2.length m1,.string c.f,.int .i64 c.n,.int .i64 c.v.1,.slice b2 c.v.2.length m2] 27)).drew) (CksEnd (((w.alloc (.cells #[.int .i64 c.a.1,.slice b1 c.a.2.length m1,.string c.f,.int .i64 c.n,.int .i64 c.v.1,.slice b2 c.v.2.length m2] 27)).alloc (.cells #[.int .i64 c.a.1,.slice b1 c.a.2.length m1,.string c.f,.int .i64 c.n,.int .i64 c.v.1,.slice b2 c.v.2.length m2] 27)).drew).heap.size xs (((w.alloc (.cells #[.int .i64 c.a.1,.slice b1 c.a.2.length m1,.string c.f,.int .i64 c.n,.int .i64 c.v.1,.slice b2 c.v.2.length m2] 27)).alloc (.cells #[.int .i64 c.a.1,.slice b1 c.a.2.length m1,.string c.f,.int .i64 c.n,.int .i64 c.v.1,.slice b2 c.v.2.length m2] 27)).drew))):=Lib.hid (clone_cks la ln lcap xs _ hm (by omega) (hs.below HB2.out HB2.out.size))
 have HARM2:Hid (∀v3 w3,OwnL ckSh 27 (((w.alloc (.cells #[.int .i64 c.a.1,.slice b1 c.a.2.length m1,.string c.f,.int .i64 c.n,.int .i64 c.v.1,.slice b2 c.v.2.length m2] 27)).alloc (.cells #[.int .i64 c.a.1,.slice b1 c.a.2.length m1,.string c.f,.int .i64 c.n,.int .i64 c.v.1,.slice b2 c.v.2.length m2] 27)).drew).heap.size xs v3 w3→Below (((w.alloc (.cells #[.int .i64 c.a.1,.slice b1 c.a.2.length m1,.string c.f,.int .i64 c.n,.int .i64 c.v.1,.slice b2 c.v.2.length m2] 27)).alloc (.cells #[.int .i64 c.a.1,.slice b1 c.a.2.length m1,.string c.f,.int .i64 c.n,.int .i64 c.v.1,.slice b2 c.v.2.length m2] 27)).drew).heap.size (((w.alloc (.cells #[.int .i64 c.a.1,.slice b1 c.a.2.length m1,.string c.f,.int .i64 c.n,.int .i64 c.v.1,.slice b2 c.v.2.length m2] 27)).alloc (.cells #[.int .i64 c.a.1,.slice b1 c.a.2.length m1,.string c.f,.int .i64 c.n,.int .i64 c.v.1,.slice b2 c.v.2.length m2] 27)).drew) w3→∃a7 c7 w7,(∀ty,(Builtin.append_ #[22,22] ty #[v3,.slice (some ⟨w.heap.size+1,0,none⟩) 1 1]).run Tryz.prog w3= .ok (.slice a7 L c7) w7)∧(Pak.Sits ckSh (Pak.Lo w7.heap.size) w7 a7 (xs ++ [c])∧Below w.heap.size w w7∧C6 w7 w.heap.size c b1 m1 b2 m2)∧(w7.cell? ⟨w.heap.size,0,none⟩=some (.int .i64 c.a.1)∧w7.cell? ⟨w.heap.size,1,none⟩=some (.slice b1 c.a.2.length m1)∧w7.cell? ⟨w.heap.size,2,none⟩=some (.string c.f)∧w7.cell? ⟨w.heap.size,3,none⟩=some (.int .i64 c.n)∧w7.cell? ⟨w.heap.size,4,none⟩=some (.int .i64 c.v.1)∧w7.cell? ⟨w.heap.size,5,none⟩=some (.slice b2 c.v.2.length m2))∧(w3.cell? ⟨w.heap.size,0,none⟩=some (.int .i64 c.a.1)∧w3.cell? ⟨w.heap.size,1,none⟩=some (.slice b1 c.a.2.length m1)∧w3.cell? ⟨w.heap.size,2,none⟩=some (.string c.f)∧w3.cell? ⟨w.heap.size,3,none⟩=some (.int .i64 c.n)∧w3.cell? ⟨w.heap.size,4,none⟩=some (.int .i64 c.v.1)∧w3.cell? ⟨w.heap.size,5,none⟩=some (.slice b2 c.v.2.length m2))):=Lib.hid fun v3 w3 hrow hb3=>by
  have hbw:=HB2.out.trans (hb3.mono HB2.out.size)
  have c3:=HCV.out.below hb3 HCV.out.lt
  have cn:=HCN.out.below hb3 HCN.out.lt
  have hlt:w.heap.size+1<(((w.alloc (.cells #[.int .i64 c.a.1,.slice b1 c.a.2.length m1,.string c.f,.int .i64 c.n,.int .i64 c.v.1,.slice b2 c.v.2.length m2] 27)).alloc (.cells #[.int .i64 c.a.1,.slice b1 c.a.2.length m1,.string c.f,.int .i64 c.n,.int .i64 c.v.1,.slice b2 c.v.2.length m2] 27)).drew).heap.size:=HCN.out.lt
  have hsit:Pak.Sits ckSh (Pak.Lo (((w.alloc (.cells #[.int .i64 c.a.1,.slice b1 c.a.2.length m1,.string c.f,.int .i64 c.n,.int .i64 c.v.1,.slice b2 c.v.2.length m2] 27)).alloc (.cells #[.int .i64 c.a.1,.slice b1 c.a.2.length m1,.string c.f,.int .i64 c.n,.int .i64 c.v.1,.slice b2 c.v.2.length m2] 27)).drew).heap.size) w3 (some ⟨w.heap.size+1,0,none⟩) [c]:=⟨by simp,fun i hi=>by
   obtain rfl:i=0:=by simp at hi;omega
   obtain⟨k0,k1,k2,k3,k4,k5⟩:=cn.cells
   refine⟨w.heap.size+1,0,_,rfl,hlt,fun j u hu=> ?_,_,_,_,_,rfl,HCI.out.hf,by have:=HCI.out.hn;unfold Lt40 at this;unfold i64;show _≤c.n∧c.n≤_;omega,linRel_of (l:=c.a.2) ((HCI.out.la.below hbw).mono HB2.out.size) (by have:=HCI.out.sa;omega) HCI.out.na,linRel_of (l:=c.v.2) ((HCI.out.lv.below hbw).mono HB2.out.size) (by have:=HCI.out.sv;omega) HCI.out.nv⟩
   show w3.cell? ⟨w.heap.size+1,0+0*6+j,none⟩=some u
   rw[Nat.zero_mul,Nat.add_zero,Nat.zero_add]
   match j,hu with
   | 0,hu=>injection hu with hu;rw[←hu];exact k0
   | 1,hu=>injection hu with hu;rw[←hu];exact k1
   | 2,hu=>injection hu with hu;rw[←hu];exact k2
   | 3,hu=>injection hu with hu;rw[←hu];exact k3
   | 4,hu=>injection hu with hu;rw[←hu];exact k4
   | 5,hu=>injection hu with hu;rw[←hu];exact k5⟩
  obtain⟨v7,w7,p1,p2,p3⟩:=cks_cat (w:=w3) (((w.alloc (.cells #[.int .i64 c.a.1,.slice b1 c.a.2.length m1,.string c.f,.int .i64 c.n,.int .i64 c.v.1,.slice b2 c.v.2.length m2] 27)).alloc (.cells #[.int .i64 c.a.1,.slice b1 c.a.2.length m1,.string c.f,.int .i64 c.n,.int .i64 c.v.1,.slice b2 c.v.2.length m2] 27)).drew).heap.size xs [c] v3 _ 1 hrow hsit hb3.size (fun h=>by cases h) (by rw[HM.out];have:=HLN.out;simp;omega)
  obtain⟨a7,k7,rfl,s7⟩:=p2.sits (by rw[List.length_append,HM.out,List.length_singleton];have:=HLN.out;omega)
  rw[List.length_append,HM.out,List.length_singleton,←HLL.out]at p1
  have c7:C6 w7 w.heap.size c b1 m1 b2 m2:=c3.below p3 HCV.out.lt
  exact⟨a7,k7,w7,p1,⟨s7,(hbw.trans (p3.mono HB2.out.size)),c7⟩,c7.cells,c3.cells⟩
 have HAPP:=Lib.hid (fun(o:CK) (a1 a2:Option Addr) (k1 k2:Nat) (V:World) (ho:Lt40 o.n) (hoa:Lf.Lies V.heap.size V a1 o.a.2) (hov:Lf.Lies V.heap.size V a2 o.v.2) (na:a1=none→o.a.2.length=0∧k1=0) (nv:a2=none→o.v.2.length=0∧k2=0) (sa:o.a.2.length*16≤140737488355328) (sv:o.v.2.length*16≤140737488355328) (hV:Below w.heap.size w V)=>
  apart_any o c a1 a2 b1 b2 k1 k2 m1 m2 V ho HCI.out.hn
   (fun n W hW=>csame_any n o.a c.a a1 b1 k1 m1 W ((hoa.below hW).mono hW.size) (((HCI.out.below hV).below hW).la) (by omega) (by have:=HCI.out.sa;omega) na HCI.out.na)
   (fun n W hW=>csame_any n o.v c.v a2 b2 k2 m2 W ((hov.below hW).mono hW.size) (((HCI.out.below hV).below hW).lv) (by omega) (by have:=HCI.out.sv;omega) nv HCI.out.nv))
 clear hs hm hl hN hb hc hL
 obtain⟨q0,q1,q2,q3,q4,q5⟩:=HC0.out.cells
 go_enter Tryz.func9,Tryz.ntmps9
 go_wp2_with fail
 go_upto_region 1 with fail
 go_cut [19,20,21] (fun v19 v20 v21 wx=>∃(a7:Option Addr) (k7:Nat),v19= .slice a7 L k7∧v20= .int .i64 L∧v21= .int .i64 0∧Hid (Pak.Sits ckSh (Pak.Lo wx.heap.size) wx a7 (xs ++ [c])∧Below w.heap.size w wx∧C6 wx w.heap.size c b1 m1 b2 m2))
 case first=>
  go_region_law (first
   | (refine step_append_runC (by rfl) _ _ _ (by rfl) _ _ (.slice a7 L k7) w7 (by rfl) (by rfl) hrun ?_)
   | (go_simp;go_at_call 29;first
       | ((with_reducible refine HCL.out.mono ?_);rintro e w3 ⟨v3,rfl,hrow3,hb3⟩;obtain⟨a7,k7,w7,hrun,hf7,hq7,hqa,y0,y1,y2,y3,y4,y5⟩:=HARM.out v3 w3 hrow3 hb3)
       | ((with_reducible refine HCL2.out.mono ?_);rintro e w3 ⟨v3,rfl,hrow3,hb3⟩;obtain⟨a7,k7,w7,hrun,hf7,hq7,y0,y1,y2,y3,y4,y5⟩:=HARM2.out v3 w3 hrow3 hb3)))
  all_goals (
   have H7:=Lib.hid hf7
   clear hrun hf7 hq7 y0 y1 y2 y3 y4 y5 hrow3 hb3
   go_wp2_with fail
   go_meet
   case rel=>exact⟨_,_,rfl,rfl,rfl,H7⟩)
 case rest=>
 obtain⟨a7,k7,rfl,rfl,rfl,H7⟩:=hcut
 clear q0 q1 q2 q3 q4 q5 HARM HCL HCD HC0 HBW HARM2 HCL2 HB2 HCV HCV0 HCN HCN0
 obtain⟨g7,o7,rfl,hg7,HE0⟩:=ck_cells H7.out.1 (by simp)
 have HE:=Lib.hid HE0
 have HG7:=Lib.hid hg7
 have HBX:Hid (∀x∈(xs ++ [c]),x.a.2.length≤9223372036854775807∧x.v.2.length≤9223372036854775807):=Lib.hid fun x hx=>by
  rcases List.mem_append.1 hx with h | h
  ·have:=HBD.out x h
   omega
  ·obtain rfl:x=c:=by simpa using h
   have:=HCI.out.sa
   have:=HCI.out.sv
   omega
 have HB7:Hid (w.heap.size≤wc.heap.size):=Lib.hid H7.out.2.1.size
 clear HE0 hg7
 go_wp2_with fail
 have hL61:L≤61:=by have:=HLL.out;have:=HLN.out;omega
 go_loopw [21] (fun i wr=>∃m:Nat,i= .int .i64 m∧m≤L∧Hid (∀j (h:j<(xs ++ [c]).length),j<m→SdC (xs ++ [c])[j])∧Hid (Below wc.heap.size wc wr)) (fun i _=>L - (intOf i).toNat)
 case atStart=>exact⟨0,rfl,Nat.zero_le _,fun j h hj=>absurd hj (Nat.not_lt_zero j),Below.refl _ _⟩
 case round=>
  obtain⟨m,rfl,hm,hsd,hb⟩:=hrel
  by_cases hlt:m<L
  ·have hmi:(m:Int)<(L:Int):=by omega
   have hmx:m<(xs ++ [c]).length:=by rw[List.length_append,HM.out,List.length_singleton,←HLL.out];exact hlt
   obtain⟨o,a1,k1,a2,k2,hox,hc0⟩:∃o a1 k1 a2 k2,(xs ++ [c])[m]'hmx=o∧CkAt wc.heap.size wc g7 (o7+m*6) o a1 k1 a2 k2:=by
    obtain⟨a1,k1,a2,k2,h⟩:=HE.out m hmx
    exact⟨_,a1,k1,a2,k2,rfl,h⟩
   have hc:=hc0.below hb.out HG7.out (Nat.le_refl _)
   have HO:Hid (o.a.2.length≤9223372036854775807∧o.v.2.length≤9223372036854775807):=Lib.hid (by rw[←hox];exact HBX.out _ (List.getElem_mem hmx))
   have HNO:Hid (¬SdC o→factsK xs c=([],5)):=Lib.hid fun h=>by
    unfold factsK
    rw[if_neg]
    rintro⟨g1,g2⟩
    refine h ?_
    have hmem:o∈(xs ++ [c]):=by rw[←hox];exact List.getElem_mem hmx
    rcases List.mem_append.1 hmem with h3 | h3
    ·exact g1 o h3
    ·obtain rfl:o=c:=by simpa using h3
     exact g2
   have HSN:Hid (SdC o→∀j (h:j<(xs ++ [c]).length),j<m+1→SdC (xs ++ [c])[j]):=Lib.hid fun h j hj hjm=>by
    by_cases e:j=m
    ·subst e
     rw[hox]
     exact h
    ·exact hsd.out j hj (by omega)
   have HLA:=Lib.hid (hc.la.mono hb.out.size)
   have HLV:=Lib.hid (hc.lv.mono hb.out.size)
   have HBN:Hid (Below wc.heap.size wc (wr.alloc (.cells #[.int .i64 o.a.1,.slice a1 o.a.2.length k1,.string o.f,.int .i64 o.n,.int .i64 o.v.1,.slice a2 o.v.2.length k2] 27))):=Lib.hid (hb.out.trans (box_low.mono hb.out.size))
   have HBO:Hid (Below wr.heap.size wr (wr.alloc (.cells #[.int .i64 o.a.1,.slice a1 o.a.2.length k1,.string o.f,.int .i64 o.n,.int .i64 o.v.1,.slice a2 o.v.2.length k2] 27))):=Lib.hid box_low
   have HC6:Hid (C6 (wr.alloc (.cells #[.int .i64 o.a.1,.slice a1 o.a.2.length k1,.string o.f,.int .i64 o.n,.int .i64 o.v.1,.slice a2 o.v.2.length k2] 27)) wr.heap.size o a1 k1 a2 k2):=Lib.hid c6_new
   have c0:=hc.c0
   have c1:=hc.c1
   have c2:=hc.c2
   have c3:=hc.c3
   have c4:=hc.c4
   have c5:=hc.c5
   obtain⟨p0,p1,p2,p3,p4,p5⟩:=HC6.out.cells
   have NA:=Lib.hid (fun h=>Lf.check_no o.a.1 a1 _ k1 o.a.2 (wr.alloc (.cells #[.int .i64 o.a.1,.slice a1 o.a.2.length k1,.string o.f,.int .i64 o.n,.int .i64 o.v.1,.slice a2 o.v.2.length k2] 27)) rfl HO.out.1 ((HLA.out.below HBO.out).mono HBO.out.size) h)
   have KA:=Lib.hid (fun h=>Lf.check_yes o.a.1 a1 _ k1 o.a.2 (wr.alloc (.cells #[.int .i64 o.a.1,.slice a1 o.a.2.length k1,.string o.f,.int .i64 o.n,.int .i64 o.v.1,.slice a2 o.v.2.length k2] 27)) rfl ((HLA.out.below HBO.out).mono HBO.out.size) h)
   have NV:=Lib.hid (fun W (hW:Below wr.heap.size wr W) h=>Lf.check_no o.v.1 a2 _ k2 o.v.2 W rfl HO.out.2 ((HLV.out.below hW).mono hW.size) h)
   have KV:=Lib.hid (fun W (hW:Below wr.heap.size wr W) h=>Lf.check_yes o.v.1 a2 _ k2 o.v.2 W rfl ((HLV.out.below hW).mono hW.size) h)
   clear hc0 hc hox hsd hb
   cases hsa:Lf.snd o.a.1 o.a.2 with
   | false=>
     have HR:=Lib.hid (HNO.out fun h=>by have:=h.1;unfold Sd at this;rw[hsa]at this;cases this)
     have C1:=Lib.hid (NA.out hsa)
     clear hsa NA KA NV KV
     go_wp2_with fail
     refine C1.out.mono ?_
     rintro r w2 ⟨rfl,hb2⟩
     have HF:=Lib.hid (H7.out.2.1.trans ((HBN.out.trans (hb2.mono HBN.out.size)).mono HB7.out))
     clear hb2 p0 p1 p2 p3 p4 p5 c0 c1 c2 c3 c4 c5
     go_wp2_with fail
     go_ret2
     exact⟨_,by rw[HR.out];rfl,by rw[HR.out];exact OwnL.nil _ _ _ _,HF.out⟩
   | true=>
     have C1:=Lib.hid (KA.out hsa)
     have HSA:=Lib.hid hsa
     clear hsa NA KA
     go_wp2_with fail
     refine C1.out.mono ?_
     rintro r w2 ⟨rfl,hb2⟩
     have HB2:=Lib.hid (HBO.out.trans (hb2.mono HBO.out.size))
     have HF2:=Lib.hid (HBN.out.trans (hb2.mono HBN.out.size))
     have HC62:=Lib.hid (HC6.out.below hb2 HC6.out.lt)
     clear hb2 p0 p1 p2 p3 p4 p5 c0 c1 c2 c3 c4 c5
     obtain⟨p0,p1,p2,p3,p4,p5⟩:=HC62.out.cells
     cases hsv:Lf.snd o.v.1 o.v.2 with
     | false=>
       have HR:=Lib.hid (HNO.out fun h=>by have:=h.2;unfold Sd at this;rw[hsv]at this;cases this)
       have C2:=Lib.hid (NV.out _ HB2.out hsv)
       clear hsv NV KV
       go_wp2_with fail
       refine C2.out.mono ?_
       rintro r w3 ⟨rfl,hb3⟩
       have HF:=Lib.hid (H7.out.2.1.trans ((HF2.out.trans (hb3.mono HF2.out.size)).mono HB7.out))
       clear hb3 p0 p1 p2 p3 p4 p5
       go_wp2_with fail
       go_ret2
       exact⟨_,by rw[HR.out];rfl,by rw[HR.out];exact OwnL.nil _ _ _ _,HF.out⟩
     | true=>
       have C2:=Lib.hid (KV.out _ HB2.out hsv)
       have HN:=Lib.hid (HSN.out ⟨HSA.out,hsv⟩)
       clear hsv NV KV
       go_wp2_with fail
       refine C2.out.mono ?_
       rintro r w3 ⟨rfl,hb3⟩
       have HF:=Lib.hid (HF2.out.trans (hb3.mono HF2.out.size))
       clear hb3 p0 p1 p2 p3 p4 p5
       go_wp2_with fail
       go_roundw
       case rel=>exact⟨m+1,by go_num,by omega,HN,HF⟩
       case measure=>simp[intOf];omega
  ·obtain rfl:m=L:=by omega
   have hlti:¬(m:Int)<(m:Int):=by omega
   have HXS:Hid ((∀x∈xs,SdC x)∧SdC c):=Lib.hid (by
    have h:∀x∈(xs ++ [c]),SdC x:=fun x hx=>by
     obtain⟨i,hi,rfl⟩:=List.getElem_of_mem hx
     exact hsd.out i hi (by rw[List.length_append,HM.out,List.length_singleton,←HLL.out]at hi;exact hi)
    exact⟨fun x hx=>h x (List.mem_append_left _ hx),h c (by simp)⟩)
   have HBE:=Lib.hid (H7.out.2.1.trans (hb.out.mono HB7.out))
   have HCE:=Lib.hid (H7.out.2.2.below hb.out H7.out.2.2.lt)
   have HFK:Hid (factsK xs c=match addS 1 (-1) (1,[]) c.a with
    | none=>([],3)
    | some y=>open Classical in if ∀j,j<xs.length→okF c (xs.getD j ck0) then(.mk 2 y.1 y.2 [] :: factsTo c xs xs.length,0) else([],3)):=Lib.hid (by unfold factsK;rw[if_pos HXS.out];rfl)
   have HLS:Hid (Calls Tryz.prog 31 #[.agg #[.int .i64 1,.slice none 0 0],.agg #[.int .i64 c.a.1,.slice b1 c.a.2.length m1]] wr (LnEnd (addS 1 (-1) (1,[]) c.a) wr)):=Lib.hid (less_any (1,[]) c.a none b1 0 m1 wr sd_unit HXS.out.2.1 (fun i hi=>absurd hi (Nat.not_lt_zero i)) ((HCI.out.below HBE.out).la))
   obtain⟨q0,q1,q2,q3,q4,q5⟩:=HCE.out.cells
   clear hsd hb HE HBX H7 HG7 HB7
   go_wp2_with fail
   refine HLS.out.mono ?_
   rintro r w2 h2
   rcases h2 with ⟨⟨rc,rl⟩,v2,hx,rfl,hrow2,hb2⟩ | ⟨hx,rfl,hb2⟩
   ·obtain⟨a3,k3,rfl,_,_⟩:=hrow2.lies
    have HLR:=Lib.hid (show rl.length≤9223372036854775807 by have:=(addS_sd hx).len;exact Nat.le_trans this (by decide))
    have HFK2:Hid (factsK xs c=open Classical in if ∀j,j<xs.length→okF c (xs.getD j ck0) then(.mk 2 rc rl [] :: factsTo c xs xs.length,0) else([],3)):=Lib.hid (by rw[HFK.out,hx])
    have HB2:=Lib.hid (HBE.out.trans (hb2.mono HBE.out.size))
    have HC2:=Lib.hid (HCE.out.below hb2 HCE.out.lt)
    have HB3:Hid (Below w.heap.size w (w2.alloc (.cells #[.int .i64 rc,.slice a3 rl.length k3] 25))):=Lib.hid (HB2.out.alloc HB2.out.size _)
    have HB4:Hid (Below w.heap.size w ((w2.alloc (.cells #[.int .i64 rc,.slice a3 rl.length k3] 25)).alloc (.cells #[.int .i64 2,.int .i64 rc,.slice a3 rl.length k3,.slice none 0 0] 38))):=Lib.hid (HB3.out.alloc HB3.out.size _)
    have HC3:Hid (C6 (w2.alloc (.cells #[.int .i64 rc,.slice a3 rl.length k3] 25)) w.heap.size c b1 m1 b2 m2):=Lib.hid (HC2.out.below box_low HC2.out.lt)
    have HC4:Hid (C6 ((w2.alloc (.cells #[.int .i64 rc,.slice a3 rl.length k3] 25)).alloc (.cells #[.int .i64 2,.int .i64 rc,.slice a3 rl.length k3,.slice none 0 0] 38)) w.heap.size c b1 m1 b2 m2):=Lib.hid (HC3.out.below box_low HC3.out.lt)
    have HROW:Hid (OwnL (frmSh 3) 38 (w.heap.size+1) [.mk 2 rc rl []] (.slice (some ⟨w2.heap.size+1,0,none⟩) 1 1) ((w2.alloc (.cells #[.int .i64 rc,.slice a3 rl.length k3] 25)).alloc (.cells #[.int .i64 2,.int .i64 rc,.slice a3 rl.length k3,.slice none 0 0] 38))):=Lib.hid (by
     have h:=own_fm1 (w:=(w2.alloc (.cells #[.int .i64 rc,.slice a3 rl.length k3] 25))) (n:=3) (B:=w.heap.size+1) (f:= .mk 2 rc rl []) HC3.out.lt ((fl_leaf (n:=2) 2 rc hrow2 HLR.out).keep (fun b h=>Nat.lt_of_lt_of_le h.2 (box_low (w:=w2)).size) (fun b o h=>(box_low (w:=w2)).cell (p:=⟨b,o,none⟩) h.2))
     rw[show(w2.alloc (.cells #[.int .i64 rc,.slice a3 rl.length k3] 25)).heap.size=w2.heap.size+1 from by simp]at h
     exact h)
    clear hx hb2 hrow2 q0 q1 q2 q3 q4 q5 HLS HFK HCE HBE HC2 HB2 HC3 HB3 HLR
    go_wp2_with fail
    have hln60:ln≤60:=HLN.out
    go_loopw [10,52] (fun v i wr=>∃m:Nat,i= .int .i64 m∧m≤ln∧Hid (∀j,j<m→okF c (xs.getD j ck0))∧Hid (OwnL (frmSh 3) 38 (w.heap.size+1) (.mk 2 rc rl [] :: factsTo c xs m) v wr)∧Hid (Below w.heap.size w wr)∧Hid (C6 wr w.heap.size c b1 m1 b2 m2)) (fun _ i _=>ln - (intOf i).toNat)
    case atStart=>exact⟨0,rfl,Nat.zero_le _,fun j hj=>absurd hj (Nat.not_lt_zero j),HROW,HB4,HC4⟩
    case round=>
     obtain⟨mq,rfl,hm2,hok,hrow,hb,hc6⟩:=hrel
     clear HROW HB4 HC4
     by_cases hlt2:mq<ln
     ·have hmi2:(mq:Int)<(ln:Int):=by omega
      have hmx2:mq<xs.length:=by rw[HM.out];exact hlt2
      obtain⟨gl,ol,rfl,hgl,HEL⟩:=ck_cells HS.out (by omega)
      obtain⟨o,a1,k1,a2,k2,hox,hc0⟩:∃o a1 k1 a2 k2,xs[mq]'hmx2=o∧CkAt w.heap.size w gl (ol+mq*6) o a1 k1 a2 k2:=by
       obtain⟨a1,k1,a2,k2,h⟩:=HEL mq hmx2
       exact⟨_,a1,k1,a2,k2,rfl,h⟩
      have hmem:o∈xs:=by rw[←hox];exact List.getElem_mem hmx2
      have hgd:xs.getD mq ck0=o:=by rw[List.getD_eq_getElem?_getD,List.getElem?_eq_getElem hmx2,hox];rfl
      have hc:=hc0.below hb.out hgl (Nat.le_refl _)
      have HTO:Hid (factsTo c xs (mq+1)=factsTo c xs mq ++ addF c o):=Lib.hid (by rw[←hgd];rfl)
      have HOK:Hid (okF c o→∀j,j<mq+1→okF c (xs.getD j ck0)):=Lib.hid fun h j hj=>by
       by_cases e:j=mq
       ·subst e
        rw[hgd]
        exact h
       ·exact hok.out j (by omega)
      have HNO:Hid (¬okF c o→factsK xs c=([],3)):=Lib.hid fun h=>by
       rw[HFK2.out,if_neg]
       intro h2
       have:=h2 mq hmx2
       rw[hgd]at this
       exact h this
      have HBO:Hid (Below wr.heap.size wr (wr.alloc (.cells #[.int .i64 o.a.1,.slice a1 o.a.2.length k1,.string o.f,.int .i64 o.n,.int .i64 o.v.1,.slice a2 o.v.2.length k2] 27))):=Lib.hid box_low
      have HBN:Hid (Below w.heap.size w (wr.alloc (.cells #[.int .i64 o.a.1,.slice a1 o.a.2.length k1,.string o.f,.int .i64 o.n,.int .i64 o.v.1,.slice a2 o.v.2.length k2] 27))):=Lib.hid (hb.out.trans (HBO.out.mono hb.out.size))
      have HCN:Hid (C6 (wr.alloc (.cells #[.int .i64 o.a.1,.slice a1 o.a.2.length k1,.string o.f,.int .i64 o.n,.int .i64 o.v.1,.slice a2 o.v.2.length k2] 27)) w.heap.size c b1 m1 b2 m2):=Lib.hid (hc6.out.below HBO.out hc6.out.lt)
      have HCO:Hid (C6 (wr.alloc (.cells #[.int .i64 o.a.1,.slice a1 o.a.2.length k1,.string o.f,.int .i64 o.n,.int .i64 o.v.1,.slice a2 o.v.2.length k2] 27)) wr.heap.size o a1 k1 a2 k2):=Lib.hid c6_new
      have HRN:Hid (OwnL (frmSh 3) 38 (w.heap.size+1) (.mk 2 rc rl [] :: factsTo c xs mq) u10 (wr.alloc (.cells #[.int .i64 o.a.1,.slice a1 o.a.2.length k1,.string o.f,.int .i64 o.n,.int .i64 o.v.1,.slice a2 o.v.2.length k2] 27))):=Lib.hid (hrow.out.below HBO.out)
      have HAPC:=Lib.hid (HAPP.out o a1 a2 k1 k2 (wr.alloc (.cells #[.int .i64 o.a.1,.slice a1 o.a.2.length k1,.string o.f,.int .i64 o.n,.int .i64 o.v.1,.slice a2 o.v.2.length k2] 27)) (by have:=HNB.out o hmem;unfold NB at this;unfold Lt40;exact this) ((hc.la.below (HBO.out.mono hb.out.size)).mono HBN.out.size) ((hc.lv.below (HBO.out.mono hb.out.size)).mono HBN.out.size) hc.na hc.nv (HBD.out o hmem).1 (HBD.out o hmem).2 HBN.out)
      have HCODE:Hid (¬(apartK o c).2=0→(apartK o c).2=3):=Lib.hid (apartK_code (HXS.out.1 o hmem) HXS.out.2)
      have HOB:Hid (∀b,u10.ownBlock=some b→b<wr.heap.size):=Lib.hid fun b h=>by
       obtain⟨css,_,h2,_⟩:=hrow.out.row
       exact(World.ownsRow.lt h2 b h).2
      have HLEN:Hid ((.mk 2 rc rl [] :: factsTo c xs mq:List Lf.FT).length≤1000000):=Lib.hid (by have:=factsTo_len c xs mq;have:=HLN.out;simp only[List.length_cons];omega)
      have c0:=hc.c0
      have c1:=hc.c1
      have c2:=hc.c2
      have c3:=hc.c3
      have c4:=hc.c4
      have c5:=hc.c5
      obtain⟨p0,p1,p2,p3,p4,p5⟩:=HCO.out.cells
      obtain⟨q0,q1,q2,q3,q4,q5⟩:=HCN.out.cells
      clear hc0 hc hok hrow hb hc6 HEL hgd hox hmem hgl
      by_cases hf:o.f=c.f
      ·have e1:(o.f.toList == c.f.toList)=true:=by rw[hf];simp
       have HAD:Hid (addF c o=[(apartK o c).1]):=Lib.hid (if_pos hf)
       have HKF:Hid ((apartK o c).2=0↔okF c o):=Lib.hid ⟨fun h _=>h,fun h=>h hf⟩
       clear hf
       go_wp2_with fail
       refine HAPC.out.mono ?_
       rintro r w5 ⟨cs,rfl,hfl,hb5⟩
       obtain⟨f0',f1,f2,f3,rfl⟩:=hfl.four
       obtain⟨sk,sc,sta,stn,stc,ska,skn,skc,rfl,rfl,rfl,rfl⟩:=(hfl.lies (B:=w5.heap.size) (fun b hb=>hb.2)).form
       have H6:Hid (Below (wr.alloc (.cells #[.int .i64 o.a.1,.slice a1 o.a.2.length k1,.string o.f,.int .i64 o.n,.int .i64 o.v.1,.slice a2 o.v.2.length k2] 27)).heap.size (wr.alloc (.cells #[.int .i64 o.a.1,.slice a1 o.a.2.length k1,.string o.f,.int .i64 o.n,.int .i64 o.v.1,.slice a2 o.v.2.length k2] 27)) (w5.alloc (.cells #[.int .i64 sk,.int .i64 sc,.slice sta stn stc,.slice ska skn skc] 38))):=Lib.hid (hb5.alloc hb5.size _)
       have HB6:=Lib.hid (HBN.out.trans (H6.out.mono HBN.out.size))
       have HC6:=Lib.hid (HCN.out.below H6.out HCN.out.lt)
       by_cases hk:(apartK o c).2=0
       ·have HFL:Hid (Lf.FLiesS (fun b=>b<(w5.alloc (.cells #[.int .i64 sk,.int .i64 sc,.slice sta stn stc,.slice ska skn skc] 38)).heap.size∧u10.ownBlock≠some b) (w5.alloc (.cells #[.int .i64 sk,.int .i64 sc,.slice sta stn stc,.slice ska skn skc] 38)) 3 (apartK o c).1 [.int .i64 sk,.int .i64 sc,.slice sta stn stc,.slice ska skn skc]):=Lib.hid (hfl.keep (fun b h=>⟨Nat.lt_of_lt_of_le h.2 (box_low (w:=w5)).size,fun e=>by have:=HOB.out b e;have:=h.1;have:=HBO.out.size;omega⟩) (fun b o h=>(box_low (w:=w5)).cell (p:=⟨b,o,none⟩) h.2))
        obtain⟨v8,w8,hrun,hrow8,hb8,_⟩:=run_push_fm (w:=(w5.alloc (.cells #[.int .i64 sk,.int .i64 sc,.slice sta stn stc,.slice ska skn skc] 38))) 3 (w.heap.size+1) _ _ u10 _ _ _ _ (HRN.out.below H6.out) HC6.out.lt HFL.out HLEN.out
        rw[show(w5.alloc (.cells #[.int .i64 sk,.int .i64 sc,.slice sta stn stc,.slice ska skn skc] 38)).heap.size=w5.heap.size+1 from by simp]at hrun
        have HROW:Hid (OwnL (frmSh 3) 38 (w.heap.size+1) (.mk 2 rc rl [] :: factsTo c xs (mq+1)) v8 w8):=Lib.hid (by rw[HTO.out,HAD.out];exact hrow8)
        have HBF:=Lib.hid (HB6.out.trans (hb8.mono (Nat.le_succ _)))
        have HCF:=Lib.hid (HC6.out.below hb8 (Nat.lt_succ_self _))
        have HOF:=Lib.hid (HOK.out (HKF.out.1 hk))
        rw[show erV (apartK o c).2= .nilIface from if_pos hk]
        clear hfl hb5 hrow8 hb8 hk p0 p1 p2 p3 p4 p5 q0 q1 q2 q3 q4 q5 c0 c1 c2 c3 c4 c5
        go_wp2_with (at_builtin;refine Lib.wpList_append_run _ rfl _ _ _ _ rfl _ _ rfl rfl _ _ (hrun _) ?_)
        clear hrun
        go_roundw
        case rel=>exact⟨mq+1,by go_num,by omega,HOF,HROW,HBF,HCF⟩
        case measure=>simp[intOf];omega
       ·have HR:=Lib.hid (HNO.out fun h=>hk (HKF.out.2 h))
        rw[show erV (apartK o c).2= .iface 89 (.int .i64 3) from by rw[HCODE.out hk];rfl]
        clear hfl hb5 hk p0 p1 p2 p3 p4 p5 q0 q1 q2 q3 q4 q5 c0 c1 c2 c3 c4 c5
        go_wp2_with fail
        go_ret2
        exact⟨_,by rw[HR.out];rfl,by rw[HR.out];exact OwnL.nil _ _ _ _,HB6.out⟩
      ·have e1:(o.f.toList == c.f.toList)=false:=bs_ne hf
       have HOF:=Lib.hid (HOK.out fun h=>absurd h hf)
       have HROW:Hid (OwnL (frmSh 3) 38 (w.heap.size+1) (.mk 2 rc rl [] :: factsTo c xs (mq+1)) u10 (wr.alloc (.cells #[.int .i64 o.a.1,.slice a1 o.a.2.length k1,.string o.f,.int .i64 o.n,.int .i64 o.v.1,.slice a2 o.v.2.length k2] 27))):=Lib.hid (by rw[HTO.out,show addF c o=[] from if_neg hf,List.append_nil];exact HRN.out)
       clear hf
       go_wp2_with fail
       go_roundw
       case rel=>exact⟨mq+1,by go_num,by omega,HOF,HROW,HBN,HCN⟩
       case measure=>simp[intOf];omega
     ·obtain rfl:mq=ln:=by omega
      have hlti:¬(mq:Int)<(mq:Int):=by omega
      have HR:Hid (factsK xs c=(.mk 2 rc rl [] :: factsTo c xs mq,0)):=Lib.hid (by
       rw[HFK2.out,if_pos (fun j hj=>hok.out j (by rw[HM.out]at hj;exact hj)),HM.out])
      go_wp2_with fail
      go_ret2
      exact⟨_,by rw[HR.out];rfl,by rw[HR.out];exact hrow.out.monoB (Nat.le_succ _),hb.out⟩
   ·have HR:Hid (factsK xs c=([],3)):=Lib.hid (by rw[HFK.out,hx])
    have HF:=Lib.hid (HBE.out.trans (hb2.mono HBE.out.size))
    clear hx hb2 q0 q1 q2 q3 q4 q5
    go_wp2_with fail
    go_ret2
    exact⟨_,by rw[HR.out];rfl,by rw[HR.out];exact OwnL.nil _ _ _ _,HF.out.alloc HF.out.size _⟩
end
section
open Go.RowKit
def RFmEnd (n:Nat)(r:Lf.FT×Int)(w:World)(e:Ending)(w':World):Prop:=∃cs:List Value,e= .returned (.tuple #[.agg cs.toArray,.int .i64 r.2])∧Lf.FLiesS (InS w.heap.size w') w' n r.1 cs∧Below w.heap.size w w'
theorem rsame_any (n:Nat)(a b:LT)(p q:Option Addr)(capa capb:Nat)(w:World)(hla:Lf.Lies w.heap.size w p a.2)(hlb:Lf.Lies w.heap.size w q b.2)(ha:a.2.length≤9223372036854775807)(hb:b.2.length≤9223372036854775807)(hna:p=none→a.2.length=0∧capa=0):
 Calls Tryz.prog 12 #[.agg #[.int .i64 a.1,.slice p a.2.length capa],.agg #[.int .i64 b.1,.slice q b.2.length capb]] w (RFmEnd (n+1) (sameK a b) w):=by
 have HW:Hid (Below w.heap.size w (((w.alloc (.cells #[.int .i64 a.1,.slice p a.2.length capa] 25)).alloc (.cells #[.int .i64 b.1,.slice q b.2.length capb] 25)).alloc (.cells #[.int .i64 0,.int .i64 0,.slice none 0 0,.slice none 0 0] 38))):=below_three
 have HB0:Hid (Below (((w.alloc (.cells #[.int .i64 a.1,.slice p a.2.length capa] 25)).alloc (.cells #[.int .i64 b.1,.slice q b.2.length capb] 25)).alloc (.cells #[.int .i64 0,.int .i64 0,.slice none 0 0,.slice none 0 0] 38)).heap.size (((w.alloc (.cells #[.int .i64 a.1,.slice p a.2.length capa] 25)).alloc (.cells #[.int .i64 b.1,.slice q b.2.length capb] 25)).alloc (.cells #[.int .i64 0,.int .i64 0,.slice none 0 0,.slice none 0 0] 38)) (((w.alloc (.cells #[.int .i64 a.1,.slice p a.2.length capa] 25)).alloc (.cells #[.int .i64 b.1,.slice q b.2.length capb] 25)).alloc (.cells #[.int .i64 0,.int .i64 0,.slice none 0 0,.slice none 0 0] 38))):=Below.refl _ _
 have HQ:=Lib.hid (fun W (hb:Below (((w.alloc (.cells #[.int .i64 a.1,.slice p a.2.length capa] 25)).alloc (.cells #[.int .i64 b.1,.slice q b.2.length capb] 25)).alloc (.cells #[.int .i64 0,.int .i64 0,.slice none 0 0,.slice none 0 0] 38)).heap.size (((w.alloc (.cells #[.int .i64 a.1,.slice p a.2.length capa] 25)).alloc (.cells #[.int .i64 b.1,.slice q b.2.length capb] 25)).alloc (.cells #[.int .i64 0,.int .i64 0,.slice none 0 0,.slice none 0 0] 38)) W)=>sm_box hb)
 have KA:=Lib.hid (fun W (hW:Below w.heap.size w W)=>Lf.rcheck_any a.1 p _ capa a.2 W rfl ha ((hla.below hW).mono hW.size))
 have KB:=Lib.hid (fun W (hW:Below w.heap.size w W)=>Lf.rcheck_any b.1 q _ capb b.2 W rfl hb ((hlb.below hW).mono hW.size))
 have MO:=Lib.hid (fun W (hW:Below w.heap.size w W) h1 h2=>rmore_any a b (-1) p q capa capb W h1 h2 (by omega) ((hla.below hW).mono hW.size) ((hlb.below hW).mono hW.size) hna)
 clear hla hlb ha hb hna
 go_enter Tryz.func12,Tryz.ntmps12
 have D0:=HQ.out _ HB0.out
 cases hsa:Lf.snd a.1 a.2 with
 | false=>
   have HR:Hid (sameK a b=(f0,5)):=Lib.hid (by unfold sameK;rw[if_neg (by rw[hsa];simp)])
   have C1:=Lib.hid (KA.out _ HW.out)
   rw[hsa]at C1
   clear hsa
   obtain⟨p0,p1,q0,q1,r0,r1,r2,r3,z0,z1,z2,z3,lt⟩:=D0
   go_wp2_with fail
   refine C1.out.mono ?_
   rintro r w2 ⟨rfl,hb2⟩
   have HF:=Lib.hid (HB0.out.trans hb2)
   have BW:=Lib.hid (HW.out.trans (HF.out.mono HW.out.size))
   clear hb2 p0 p1 q0 q1 r0 r1 r2 r3 z0 z1 z2 z3 lt
   have D:=HQ.out _ HF.out
   obtain⟨e0,e1,e2,e3,HBF⟩:=store4 (v0:= .int .i64 0) (v1:= .int .i64 0) (v2:= .slice none 0 0) (v3:= .slice none 0 0) BW.out (show w.heap.size≤w.heap.size+1+1 by omega) D.r0 D.r1 D.r2 D.r3
   have E:=Lib.hid (And.intro e0 (And.intro e1 (And.intro e2 e3)))
   have HBG:=Lib.hid HBF
   clear e0 e1 e2 e3 HBF
   obtain⟨p0,p1,q0,q1,r0,r1,r2,r3,z0,z1,z2,z3,lt⟩:=D
   go_wp2_with fail
   obtain⟨e0,e1,e2,e3⟩:=E.out
   refine bodyPost_ret (v:= .tuple #[.agg #[.int .i64 0,.int .i64 0,.slice none 0 0,.slice none 0 0],.int .i64 5]) ?_ rfl (by rw[HR.out];exact⟨[.int .i64 0,.int .i64 0,.slice none 0 0,.slice none 0 0],rfl,f0_lies,HBG.out⟩)
   simp[results,Tryz.results12,go_sem,e0,e1,e2,e3]
 | true=>
   have HSA:=Lib.hid hsa
   have C1:=Lib.hid (KA.out _ HW.out)
   rw[hsa]at C1
   clear hsa
   obtain⟨p0,p1,q0,q1,r0,r1,r2,r3,z0,z1,z2,z3,lt⟩:=D0
   go_wp2_with fail
   refine C1.out.mono ?_
   rintro r w2 ⟨rfl,hb2⟩
   have H2:=Lib.hid (HB0.out.trans hb2)
   have BW2:=Lib.hid (HW.out.trans (H2.out.mono HW.out.size))
   clear hb2 p0 p1 q0 q1 r0 r1 r2 r3 z0 z1 z2 z3 lt
   have C2:=Lib.hid (KB.out _ BW2.out)
   cases hsb:Lf.snd b.1 b.2 with
   | false=>
     have HR:Hid (sameK a b=(f0,5)):=Lib.hid (by unfold sameK;rw[if_neg (by rw[hsb];simp)])
     rw[hsb]at C2
     clear hsb
     obtain⟨p0,p1,q0,q1,r0,r1,r2,r3,z0,z1,z2,z3,lt⟩:=HQ.out _ H2.out
     go_wp2_with fail
     refine C2.out.mono ?_
     rintro r w3 ⟨rfl,hb3⟩
     have HF:=Lib.hid (H2.out.trans (hb3.mono H2.out.size))
     have BW:=Lib.hid (HW.out.trans (HF.out.mono HW.out.size))
     clear hb3 p0 p1 q0 q1 r0 r1 r2 r3 z0 z1 z2 z3 lt
     have D:=HQ.out _ HF.out
     obtain⟨e0,e1,e2,e3,HBF⟩:=store4 (v0:= .int .i64 0) (v1:= .int .i64 0) (v2:= .slice none 0 0) (v3:= .slice none 0 0) BW.out (show w.heap.size≤w.heap.size+1+1 by omega) D.r0 D.r1 D.r2 D.r3
     have E:=Lib.hid (And.intro e0 (And.intro e1 (And.intro e2 e3)))
     have HBG:=Lib.hid HBF
     clear e0 e1 e2 e3 HBF
     obtain⟨p0,p1,q0,q1,r0,r1,r2,r3,z0,z1,z2,z3,lt⟩:=D
     go_wp2_with fail
     obtain⟨e0,e1,e2,e3⟩:=E.out
     refine bodyPost_ret (v:= .tuple #[.agg #[.int .i64 0,.int .i64 0,.slice none 0 0,.slice none 0 0],.int .i64 5]) ?_ rfl (by rw[HR.out];exact⟨[.int .i64 0,.int .i64 0,.slice none 0 0,.slice none 0 0],rfl,f0_lies,HBG.out⟩)
     simp[results,Tryz.results12,go_sem,e0,e1,e2,e3]
   | true=>
     have HSB:=Lib.hid hsb
     rw[hsb]at C2
     clear hsb
     obtain⟨p0,p1,q0,q1,r0,r1,r2,r3,z0,z1,z2,z3,lt⟩:=HQ.out _ H2.out
     go_wp2_with fail
     refine C2.out.mono ?_
     rintro r w3 ⟨rfl,hb3⟩
     have H3:=Lib.hid (H2.out.trans (hb3.mono H2.out.size))
     have BW3:=Lib.hid (HW.out.trans (H3.out.mono HW.out.size))
     clear hb3 p0 p1 q0 q1 r0 r1 r2 r3 z0 z1 z2 z3 lt
     have C3:=Lib.hid (MO.out _ BW3.out HSA.out HSB.out)
     obtain⟨p0,p1,q0,q1,r0,r1,r2,r3,z0,z1,z2,z3,lt⟩:=HQ.out _ H3.out
     have HZ:Hid (w.heap.size+1+1<w3.heap.size):=Lib.hid lt
     go_wp2_with fail
     refine C3.out.mono ?_
     rintro r w4 h4
     clear p0 p1 q0 q1 r0 r1 r2 r3 z0 z1 z2 z3 lt
     rcases h4 with ⟨⟨rc,rl⟩,v,hx,rfl,hrow,hb4⟩ | ⟨hx,rfl,hb4⟩
     ·have HR:Hid (sameK a b=(.mk 3 rc rl [],0)):=Lib.hid (by unfold sameK;rw[if_pos ⟨HSA.out,HSB.out⟩,hx])
      have H4:=Lib.hid (H3.out.trans (hb4.mono H3.out.size))
      have HLEN:=Lib.hid (show rl.length≤9223372036854775807 by have:=(addS_sd hx).len;exact Nat.le_trans this (by decide))
      obtain⟨a3,cap3,rfl,_,_⟩:=hrow.lies
      have HF:Hid (Below (((w.alloc (.cells #[.int .i64 a.1,.slice p a.2.length capa] 25)).alloc (.cells #[.int .i64 b.1,.slice q b.2.length capb] 25)).alloc (.cells #[.int .i64 0,.int .i64 0,.slice none 0 0,.slice none 0 0] 38)).heap.size (((w.alloc (.cells #[.int .i64 a.1,.slice p a.2.length capa] 25)).alloc (.cells #[.int .i64 b.1,.slice q b.2.length capb] 25)).alloc (.cells #[.int .i64 0,.int .i64 0,.slice none 0 0,.slice none 0 0] 38)) (w4.alloc (.cells #[.int .i64 rc,.slice a3 rl.length cap3] 25))):=Lib.hid (H4.out.alloc H4.out.size _)
      have BW:=Lib.hid (HW.out.trans (HF.out.mono HW.out.size))
      have HRF:Hid (Lf.Row w.heap.size rl (.slice a3 rl.length cap3) (((((w4.alloc (.cells #[.int .i64 rc,.slice a3 rl.length cap3] 25)).setCell ⟨w.heap.size+1+1,0,none⟩ (.int .i64 3)).setCell ⟨w.heap.size+1+1,1,none⟩ (.int .i64 rc)).setCell ⟨w.heap.size+1+1,2,none⟩ (.slice a3 rl.length cap3)).setCell ⟨w.heap.size+1+1,3,none⟩ (.slice none 0 0))):=Lib.hid (Lf.Row.mono (ownsRow_setCell_below (ownsRow_setCell_below (ownsRow_setCell_below (ownsRow_setCell_below (Lf.Row.alloc hrow _) HZ.out _) HZ.out _) HZ.out _) HZ.out _) (by have:=HZ.out;omega))
      clear hx hb4 hrow
      have D:=HQ.out _ HF.out
      obtain⟨e0,e1,e2,e3,HBF⟩:=store4 (v0:= .int .i64 3) (v1:= .int .i64 rc) (v2:= .slice a3 rl.length cap3) (v3:= .slice none 0 0) BW.out (show w.heap.size≤w.heap.size+1+1 by omega) D.r0 D.r1 D.r2 D.r3
      have E:=Lib.hid (And.intro e0 (And.intro e1 (And.intro e2 e3)))
      have HBG:=Lib.hid HBF
      clear e0 e1 e2 e3 HBF
      obtain⟨p0,p1,q0,q1,r0,r1,r2,r3,z0,z1,z2,z3,lt⟩:=D
      go_wp2_with fail
      obtain⟨e0,e1,e2,e3⟩:=E.out
      refine bodyPost_ret (v:= .tuple #[.agg #[.int .i64 3,.int .i64 rc,.slice a3 rl.length cap3,.slice none 0 0],.int .i64 0]) ?_ rfl (by rw[HR.out];exact⟨[.int .i64 3,.int .i64 rc,.slice a3 rl.length cap3,.slice none 0 0],rfl,fl_leaf 3 rc HRF.out HLEN.out,HBG.out⟩)
      simp[results,Tryz.results12,go_sem,e0,e1,e2,e3]
     ·have HR:Hid (sameK a b=(f0,3)):=Lib.hid (by unfold sameK;rw[if_pos ⟨HSA.out,HSB.out⟩,hx])
      have H4:=Lib.hid (H3.out.trans (hb4.mono H3.out.size))
      have HF:Hid (Below (((w.alloc (.cells #[.int .i64 a.1,.slice p a.2.length capa] 25)).alloc (.cells #[.int .i64 b.1,.slice q b.2.length capb] 25)).alloc (.cells #[.int .i64 0,.int .i64 0,.slice none 0 0,.slice none 0 0] 38)).heap.size (((w.alloc (.cells #[.int .i64 a.1,.slice p a.2.length capa] 25)).alloc (.cells #[.int .i64 b.1,.slice q b.2.length capb] 25)).alloc (.cells #[.int .i64 0,.int .i64 0,.slice none 0 0,.slice none 0 0] 38)) (w4.alloc (.cells #[.int .i64 0,.slice none 0 0] 25))):=Lib.hid (H4.out.alloc H4.out.size _)
      have BW:=Lib.hid (HW.out.trans (HF.out.mono HW.out.size))
      clear hx hb4
      have D:=HQ.out _ HF.out
      obtain⟨e0,e1,e2,e3,HBF⟩:=store4 (v0:= .int .i64 0) (v1:= .int .i64 0) (v2:= .slice none 0 0) (v3:= .slice none 0 0) BW.out (show w.heap.size≤w.heap.size+1+1 by omega) D.r0 D.r1 D.r2 D.r3
      have E:=Lib.hid (And.intro e0 (And.intro e1 (And.intro e2 e3)))
      have HBG:=Lib.hid HBF
      clear e0 e1 e2 e3 HBF
      obtain⟨p0,p1,q0,q1,r0,r1,r2,r3,z0,z1,z2,z3,lt⟩:=D
      go_wp2_with fail
      obtain⟨e0,e1,e2,e3⟩:=E.out
      refine bodyPost_ret (v:= .tuple #[.agg #[.int .i64 0,.int .i64 0,.slice none 0 0,.slice none 0 0],.int .i64 3]) ?_ rfl (by rw[HR.out];exact⟨[.int .i64 0,.int .i64 0,.slice none 0 0,.slice none 0 0],rfl,f0_lies,HBG.out⟩)
      simp[results,Tryz.results12,go_sem,e0,e1,e2,e3]
theorem rnot_any (B n:Nat)(f:Lf.FT)(cs:List Value)(w:World)(hB:B≤w.heap.size)(h:Lf.FLiesS (InS B w) w n f cs):Calls Tryz.prog 35 #[.agg cs.toArray] w (NotEnd B n f w):=by
 obtain⟨c0,c1,c2,c3,rfl⟩:=h.four
 have HH:=Lib.hid h
 have HB:=Lib.hid hB
 have ho:∃k c ta tn tc ka kn kc,c0= .int .i64 k∧c1= .int .i64 c∧c2= .slice ta tn tc∧c3= .slice ka kn kc:=(h.lies (B:=w.heap.size) (fun b hb=>hb.2)).form
 obtain⟨k,c,ta,tn,tc,ka,kn,kc,rfl,rfl,rfl,rfl⟩:=ho
 clear h hB
 go_enter Tryz.func35,Tryz.ntmps35
 go_wp2_with fail
 obtain⟨hb,h1,h2,hs⟩:=three_at w #[.int .i64 k,.int .i64 c,.slice ta tn tc,.slice ka kn kc] #[.int .i64 4,.int .i64 0,.slice none 0 0,.slice (some ⟨w.heap.size+1+1,0,none⟩) 1 1] #[.int .i64 k,.int .i64 c,.slice ta tn tc,.slice ka kn kc] 38 38 38
 generalize (((w.alloc (.cells #[.int .i64 k,.int .i64 c,.slice ta tn tc,.slice ka kn kc] 38)).alloc (.cells #[.int .i64 4,.int .i64 0,.slice none 0 0,.slice (some ⟨w.heap.size+1+1,0,none⟩) 1 1] 38)).alloc (.cells #[.int .i64 k,.int .i64 c,.slice ta tn tc,.slice ka kn kc] 38))=W at*
 have e0:W.cell? ⟨w.heap.size+1,0,none⟩=some (.int .i64 4):=(cell_of_row _ _ _ _ _ _ h1).trans rfl
 have e1:W.cell? ⟨w.heap.size+1,1,none⟩=some (.int .i64 0):=(cell_of_row _ _ _ _ _ _ h1).trans rfl
 have e2:W.cell? ⟨w.heap.size+1,2,none⟩=some (.slice none 0 0):=(cell_of_row _ _ _ _ _ _ h1).trans rfl
 have e3:W.cell? ⟨w.heap.size+1,3,none⟩=some (.slice (some ⟨w.heap.size+1+1,0,none⟩) 1 1):=(cell_of_row _ _ _ _ _ _ h1).trans rfl
 have hBB:=HB.out
 refine bodyPost_ret (v:= .agg #[.int .i64 4,.int .i64 0,.slice none 0 0,.slice (some ⟨w.heap.size+1+1,0,none⟩) 1 1]) ?_ rfl ⟨[.int .i64 4,.int .i64 0,.slice none 0 0,.slice (some ⟨w.heap.size+1+1,0,none⟩) 1 1],rfl,fl_not HH.out hb (by omega) (by omega) ((cell_of_row _ _ _ _ _ _ h2).trans rfl) ((cell_of_row _ _ _ _ _ _ h2).trans rfl) ((cell_of_row _ _ _ _ _ _ h2).trans rfl) ((cell_of_row _ _ _ _ _ _ h2).trans rfl),hb⟩
 simp[results,Tryz.results35,go_sem,e0,e1,e2,e3]
end
section
open Go.ChangeShapes Go.WideShapes Go.ChangeAt Go.RowKit
section
variable {H:Type} {enc:TypeId×Value→H} {w:World} {base:Nat} {spare:Nat→Bool} {held:Bool}
theorem open_chunks2 {ts:List TypeId}{ds:List (DataW H)}{j:Nat}{r:Reach}{b0:Nat}{v:Value}{d:DataW H}{p:List MemPlace}(hsz:(DataW.weightsEach Tryz.prog ts ds).all (·≤reachBytes)=true)(ht:ts[j]? =some 22)(hd:ds[j]? =some d)(hv:Value.okWide Tryz.prog w r b0 22 v)(h:DataW.Trod enc Tryz.prog w base spare held 22 v d p):
 ∃a m cap xs,v= .slice a m cap∧xs.length=m∧Pak.Sits ckSh (Pak.Lo w.heap.size) w a xs∧(∀x∈xs,CkB x)∧(a=none→cap=0):=by
 obtain⟨a,m,cap,xs,rfl,h1,h2,h3⟩:=open_chunks hsz ht hd hv h
 refine⟨a,m,cap,xs,rfl,h1,h2,h3,fun e=> ?_⟩
 obtain⟨fuel,hf⟩:=h
 rcases DataW.trod_slice Tryz.underlying22 hf with ⟨h0,_⟩ | ⟨b,len,cap',elems,rest,n,_,hcs,_⟩
 ·injection h0 with h0
  injection h0
 ·injection hcs with hcs
  injection hcs with q1 q2 q3
  rw[e]at q1
  cases q1
theorem open_chunk {ts:List TypeId}{ds:List (DataW H)}{j:Nat}{r:Reach}{b0:Nat}{v:Value}{d:DataW H}{p:List MemPlace}(hsz:(DataW.weightsEach Tryz.prog ts ds).all (·≤reachBytes)=true)(ht:ts[j]? =some 27)(hd:ds[j]? =some d)(hv:Value.okWide Tryz.prog w r b0 27 v)(h:DataW.Trod enc Tryz.prog w base spare held 27 v d p):
 ∃(c:CK) (b1 b2:Option Addr) (m1 m2:Nat),v= .agg #[.int .i64 c.a.1,.slice b1 c.a.2.length m1,.string c.f,.int .i64 c.n,.int .i64 c.v.1,.slice b2 c.v.2.length m2]∧(Lt40 c.n→CkIn w c b1 m1 b2 m2):=by
 obtain⟨cs,rfl,_⟩:=okWide_struct Tryz.underlying27 hv
 obtain⟨fuel,hf⟩:=h
 have hw:Lgt 27 d:=fun k hk=>by
  have:=List.all_eq_true.1 hsz _ (DataW.weights_mem_each ht hd k hk)
  simpa using this
 obtain⟨y,⟨c1,v1,c2,v2,e,hf1,hn,r1,r2⟩,hB⟩:=opnChunk (x:=(d,p)) hf hw
 obtain⟨a1,k1,rfl,rfl,_,l1,n1⟩:=r1.form
 obtain⟨a2,k2,rfl,rfl,_,l2,n2⟩:=r2.form
 refine⟨y,a1,a2,k1,k2, ?_,fun h=>⟨l1,n1,l2,n2,hf1,h,hB.1,hB.2⟩⟩
 have e':cs.toList=[.int .i64 y.a.1,.slice a1 y.a.2.length k1,.string y.f,.int .i64 y.n,.int .i64 y.v.1,.slice a2 y.v.2.length k2]:=e
 rw[show cs=[.int .i64 y.a.1,.slice a1 y.a.2.length k1,.string y.f,.int .i64 y.n,.int .i64 y.v.1,.slice a2 y.v.2.length k2].toArray from by rw[←e']]
end
end
end Go.Proofs.YtjbkhdbjdahbiaaGreatDoor
