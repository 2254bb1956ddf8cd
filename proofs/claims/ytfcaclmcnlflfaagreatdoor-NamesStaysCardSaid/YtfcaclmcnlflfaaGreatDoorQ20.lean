/- Parts of a proof. -/
import Derived.Test.YtfcaclmcnlflfaaGreatDoorQ01
import Derived.Test.YtfcaclmcnlflfaaGreatDoorQ15
import Derived.Test.YtfcaclmcnlflfaaGreatDoorQ16
import Derived.Test.YtfcaclmcnlflfaaGreatDoorQ17
set_option linter.unusedVariables false
set_option linter.unusedSimpArgs false
set_option maxHeartbeats 60000000
set_option maxRecDepth 100000
namespace Go.Proofs.YtfcaclmcnlflfaaGreatDoor
section
open Go.RowKit
def shS:Nat→ST→Bool
 | 0,_=>true
 | k+1,s=> !prA k s.p.a
def amC (n:Nat)(qs:List QT)(q:QT)(again:Bool):Int:=
 if(again || twiB (q.params ++ q.ghosts) || hasW resW (q.params ++ q.ghosts))=true then 13
 else if kwB n (q.params ++ q.ghosts) qs q=false then 12
 else if evs (fun _ s=>cntB qs s) n q.body=false then 14
 else if(prA n q.pre || prA n q.post || !evs shS n q.body)=true then 1
 else 0
theorem own_len {q:QT}(h1:q.params.length≤50)(h2:q.ghosts.length≤50):(q.params ++ q.ghosts).length≤100:=by rw[List.length_append];omega
theorem amiss_box (cs ca cb:List Value)(L0 L1 L2:List ByteArray)(a1 a2 a5:Option Addr)(m5 c1 c2 d5 gq:Nat)(y1 y2:Value)(again zt zr zk zc zp zq zs:Bool)(w:World)(hl:cs.length=34)(eg:∀args w,(callFunc gq args).run Tryz.prog w= .ok (.enter gq args) w)
 (q1:cs[1]? =some (.slice a1 L1.length c1)) (q2:cs[2]? =some (.slice a2 L2.length c2)) (q33:cs[33]? =some (.slice a5 m5 d5)) (p3:Part cs 3 ca) (p18:Part cs 18 cb) (la:ca.length=15) (lb:cb.length=15) (h1:L1.length≤50) (h2:L2.length≤50) (s1:Pak.Sits strSh (Pak.Lo w.heap.size) w a1 L1) (s2:Pak.Sits strSh (Pak.Lo w.heap.size) w a2 L2)
 (ht:twiB (L1 ++ L2)=zt) (hr:hasW resW (L1 ++ L2)=zr)
 (xk:∀W a d,Below w.heap.size w W→Pak.Sits strSh (Pak.Lo W.heap.size) W a (L1 ++ L2)→Calls Tryz.prog 39 #[.agg cs.toArray,.slice a (L1 ++ L2).length d,.func (.func gq) #[] #[y1,y2]] W (SoundEnd zk W))
 (xc:∀W,Below w.heap.size w W→W.cell? ⟨w.heap.size+1,0,none⟩=some (.func (.func gq) #[] #[y1,y2])→Calls Tryz.prog 40 #[.slice a5 m5 d5,.func (.func 41) #[] #[.pointer (some ⟨w.heap.size+1,0,none⟩)]] W (SoundEnd zc W))
 (xp:BoolAll 43 #[.agg ca.toArray] (!zp) w) (xq:BoolAll 43 #[.agg cb.toArray] (!zq) w) (xs:BoolAll 40 #[.slice a5 m5 d5,.func (.func 44) #[] #[]] zs w):
 Calls Tryz.prog 15 #[.agg cs.toArray,.bool again,.func (.func gq) #[] #[y1,y2]] w fun r w'=>r= .returned (.int .i64 (if(again || zt || zr)=true then 13 else if zk=false then 12 else if zc=false then 14 else if(zp || zq || !zs)=true then 1 else 0))∧Below w.heap.size w w':=by
 have Y0:Hid (YW w cs gq y1 y2 ((w.alloc (.cells cs.toArray 49)).alloc (.cells #[.func (.func gq) #[] #[y1,y2]] 55))):=Lib.hid ⟨Below.refl _ _⟩
 have HLW:Hid (∀W,YW w cs gq y1 y2 W→Below w.heap.size w W):=Lib.hid fun W hW=>hW.bx.low (Below.refl _ _)
 have HE5:Hid (∀W,YW w cs gq y1 y2 W→W.cell? ⟨w.heap.size+1,0,none⟩=some (.func (.func gq) #[] #[y1,y2])):=Lib.hid fun W hW=>(hW.b.cell (p:=⟨w.heap.size+1,0,none⟩) (show w.heap.size+1<w.heap.size+1+1 by omega)).trans (by simp[go_sem])
 have e1:=Y0.out.bx.at (o:=1) q1
 have e2:=Y0.out.bx.at (o:=2) q2
 have Q33:=Lib.hid q33
 have P3:=Lib.hid (fun W (hb:YW w cs gq y1 y2 W)=>box_part p3 hb.bx)
 have P18:=Lib.hid (fun W (hb:YW w cs gq y1 y2 W)=>box_part p18 hb.bx)
 have PW:=Lib.hid (fun W (hb:YW w cs gq y1 y2 W)=>box_part (cs:=cs) (l:=cs) (o:=0) (fun i v h=>by rw[Nat.zero_add];exact h) hb.bx)
 have LW:=Lib.hid hl
 have LA:=Lib.hid la
 have LC:=Lib.hid lb
 have XK:=Lib.hid xk
 have XC:=Lib.hid xc
 have XP:=Lib.hid xp
 have XQ:=Lib.hid xq
 have XS:=Lib.hid xs
 have HT:=Lib.hid ht
 have HR:=Lib.hid hr
 have HLN:=Lib.hid (show(L1 ++ L2).length≤100 by rw[List.length_append];omega)
 have A1:Hid (YW w cs gq y1 y2 (((w.alloc (.cells cs.toArray 49)).alloc (.cells #[.func (.func gq) #[] #[y1,y2]] 55)).alloc (.cells #[.slice a1 L1.length c1,.slice a2 L2.length c2] 38))):=Lib.hid (Y0.out.alloc _ _)
 have FC:=Lib.hid (concatStr_any (w.heap.size+1+1) a1 L1.length c1 L1 a2 L2.length c2 L2 _ rfl rfl (by omega) (by omega) (s1.below (HLW.out _ A1.out) (HLW.out _ A1.out).size) (s2.below (HLW.out _ A1.out) (HLW.out _ A1.out).size) (by simp[go_sem]) (by simp[go_sem]) (by simp))
 clear q1 q2 q33 p3 p18 xk xc xp xq xs ht hr s1 s2 la lb h1 h2 hl
 go_enter Tryz.func15,Tryz.ntmps15
 go_wp2_with fail
 refine FC.out.mono ?_
 rintro r w2 ⟨v,rfl,hrow,hb⟩
 have Y2:=Lib.hid (A1.out.step hb)
 obtain⟨a,d,rfl,hs⟩:=hrow.sits (by have:=HLN.out;omega)
 have HS:=Lib.hid hs
 clear hb FC hrow hs e1 e2
 have F1:=Lib.hid (twice_any a (L1 ++ L2).length d (L1 ++ L2) w2 rfl (by have:=HLN.out;omega) HS.out)
 have F2:=Lib.hid (fun W (hW:Below w2.heap.size w2 W)=>contains_any resW a (L1 ++ L2).length d (L1 ++ L2) W rfl (HS.out.below hW hW.size))
 rw[HT.out]at F1
 rw[HR.out]at F2
 have F3:=Lib.hid (fun W (hW:Below w2.heap.size w2 W) (hy:YW w cs gq y1 y2 W)=>XK.out W a d (HLW.out W hy) (HS.out.below hW hW.size))
 clear HT HR XK
 generalize (L1 ++ L2).length=LL at*
 clear HS
 cases again with
 | true=>
   go_wp2_with fail
   go_ret
   exact⟨by simp,HLW.out _ Y2.out⟩
 | false=>
 go_wp2_with fail
 refine F1.out.mono ?_
 rintro r w3 ⟨rfl,hb⟩
 have H3:=Lib.hid hb
 have Y3:=Lib.hid (Y2.out.step hb)
 clear hb F1
 cases zt with
 | true=>
   go_wp2_with fail
   go_ret
   exact⟨by simp,HLW.out _ Y3.out⟩
 | false=>
 have F:=Lib.hid (F2.out w3 H3.out)
 unfold resW at F
 clear F2
 go_wp2_with fail
 refine F.out.mono ?_
 rintro r w4 ⟨rfl,hb⟩
 have H4:=Lib.hid (H3.out.trans (hb.mono H3.out.size))
 have Y4:=Lib.hid (Y3.out.step hb)
 clear hb F
 cases zr with
 | true=>
   go_wp2_with fail
   go_ret
   exact⟨by simp,HLW.out _ Y4.out⟩
 | false=>
 have F:=Lib.hid (F3.out w4 H4.out Y4.out)
 have k5:=HE5.out _ Y4.out
 clear F3
 go_wp2_with (first | go_skip | (refine wpList_load_w (by kernel_rfl) 49 _ rfl ⟨w.heap.size,0,none⟩ rfl cs _ (PW.out _ Y4.out) Tryz.underlying49 rfl (by rw[LW.out];kernel_rfl) ?_))
 refine F.out.mono ?_
 rintro r w5 ⟨rfl,hb⟩
 have Y5:=Lib.hid (Y4.out.step hb)
 clear hb F k5
 cases zk with
 | false=>
   go_wp2_with fail
   go_ret
   exact⟨by simp,HLW.out _ Y5.out⟩
 | true=>
 have F:=Lib.hid (XC.out w5 (HLW.out _ Y5.out) (HE5.out _ Y5.out))
 have k33:=Y5.out.bx.at (o:=33) Q33.out
 clear XC
 go_wp2_with fail
 refine F.out.mono ?_
 rintro r w6 ⟨rfl,hb⟩
 have Y6:=Lib.hid (Y5.out.step hb)
 clear hb F k33
 cases zc with
 | false=>
   go_wp2_with fail
   go_ret
   exact⟨by simp,HLW.out _ Y6.out⟩
 | true=>
 have F:=Lib.hid (XP.out.at (HLW.out _ Y6.out))
 clear XP
 go_wp2_with (first | go_skip | (refine wpList_load_w (by kernel_rfl) 44 _ rfl ⟨w.heap.size,3,none⟩ rfl ca _ (P3.out _ Y6.out) Tryz.underlying44 rfl (by rw[LA.out];kernel_rfl) ?_))
 refine F.out.mono ?_
 rintro r w7 ⟨rfl,hb⟩
 have Y7:=Lib.hid (Y6.out.step hb)
 clear hb F
 cases zp with
 | true=>
   go_wp2_with fail
   go_ret
   exact⟨by simp,HLW.out _ Y7.out⟩
 | false=>
 have F:=Lib.hid (XQ.out.at (HLW.out _ Y7.out))
 clear XQ
 go_wp2_with (first | go_skip | (refine wpList_load_w (by kernel_rfl) 44 _ rfl ⟨w.heap.size,18,none⟩ rfl cb _ (P18.out _ Y7.out) Tryz.underlying44 rfl (by rw[LC.out];kernel_rfl) ?_))
 refine F.out.mono ?_
 rintro r w8 ⟨rfl,hb⟩
 have Y8:=Lib.hid (Y7.out.step hb)
 clear hb F
 cases zq with
 | true=>
   go_wp2_with fail
   go_ret
   exact⟨by simp,HLW.out _ Y8.out⟩
 | false=>
 have F:=Lib.hid (XS.out.at (HLW.out _ Y8.out))
 have k33:=Y8.out.bx.at (o:=33) Q33.out
 clear XS
 go_wp2_with fail
 refine F.out.mono ?_
 rintro r w9 ⟨rfl,hb⟩
 have Y9:=Lib.hid (Y8.out.step hb)
 clear hb F k33
 cases zs with
 | true=>
   go_wp2_with fail
   go_ret
   exact⟨by simp,HLW.out _ Y9.out⟩
 | false=>
   go_wp2_with fail
   go_ret
   exact⟨by simp,HLW.out _ Y9.out⟩
theorem amiss_any (n:Nat)(q:QT)(cs:List Value)(again:Bool)(gq:Nat)(y1 y2:Value)(qs:List QT)(w:World)(eg:∀args w,(callFunc gq args).run Tryz.prog w= .ok (.enter gq args) w)(h1:q.params.length≤50)(h2:q.ghosts.length≤50)(hr:(procSh n).rel (Pak.Lo w.heap.size) w cs q)(hq:CalLaw gq y1 y2 qs w):
 Calls Tryz.prog 15 #[.agg cs.toArray,.bool again,.func (.func gq) #[] #[y1,y2]] w fun r w'=>r= .returned (.int .i64 (amC n qs q again))∧Below w.heap.size w w':=by
 obtain⟨ca,cb,a1,a2,a3,c1,c2,c3,H⟩:=proc_is hr
 have hsh:=fun(V:World) (hV:Below w.heap.size w V) k (s:ST) cs W (hW:Below V.heap.size V W) (hrs:(stmtSh k).rel (Pak.Lo W.heap.size) W cs s)=>(show Calls Tryz.prog 44 #[.agg cs.toArray] W (SoundEnd (shS k s) W) from by
  cases k with
  | zero=>exact hrs.elim
  | succ k=>exact amiss2_any k s cs W hrs W (Below.refl _ _))
 exact amiss_box cs ca cb [] q.params q.ghosts a1 a2 a3 q.body.length c1 c2 c3 gq y1 y2 again _ _ _ _ _ _ _ w H.len eg H.params H.ghosts H.body H.pre H.post (((assnSh n).len H.rpre).trans (assnSh_k _)) (((assnSh n).len H.rpost).trans (assnSh_k _)) h1 h2 H.rparams H.rghosts rfl rfl
  (fun W a d hW hs=>known_any n q cs (q.params ++ q.ghosts) a d gq y1 y2 qs W eg (by have:=own_len h1 h2;omega) (by omega) (rel_low hr hW) hs (hq.up hW) W (Below.refl _ _))
  (fun W hW h5=>every_any1 41 (.pointer (some ⟨w.heap.size+1,0,none⟩)) (fun _ s=>cntB qs s) (fun args w=>by kernel_rfl) n q.body a3 c3 W (fun k s cs V hV hrs=>amiss1_any k s cs (w.heap.size+1) gq y1 y2 qs V eg ((hV.cell (p:=⟨w.heap.size+1,0,none⟩) (block_lt_of_cell h5)).trans h5) (hq.up (hW.trans (hV.mono hW.size))) hrs V (Below.refl _ _)) (H.rbody.below hW hW.size) W (Below.refl _ _))
  (fun W hW=>shares16_any n q.pre ca W (rel_low H.rpre hW)) (fun W hW=>shares16_any n q.post cb W (rel_low H.rpost hW))
  (every_any0 44 shS (fun args w=>by kernel_rfl) n q.body a3 c3 w (hsh w (Below.refl _ _)) H.rbody)
end
section
open Go.RowKit
def fjF (qs:List QT)(j:Nat)(s:ByteArray):Option Int:=if findN s qs<j then some (findN s qs:Int) else none
theorem fjF_zero (qs:List QT):fjF qs 0=fun _=>none:=by funext s;simp[fjF]
theorem fjF_all (qs:List QT):fjF qs qs.length=frsF qs:=rfl
theorem findN_name {s:ByteArray}:∀ {qs:List QT} (h:findN s qs<qs.length),qs[findN s qs].name=s
 | [],h=>absurd h (Nat.not_lt_zero _)
 | q :: r,h=>by
   by_cases e:q.name=s
   ·have h0:findN s (q :: r)=0:=if_pos e
    simp only[h0];exact e
   ·have h0:findN s (q :: r)=findN s r+1:=if_neg e
    simp only[h0]
    exact findN_name (qs:=r) (by rw[h0]at h;simpa using h)
theorem findN_le:∀ {qs:List QT} {j:Nat} (h:j<qs.length),findN qs[j].name qs≤j
 | q :: r,0,_=>by simp[findN]
 | q :: r,j+1,h=>by
   unfold findN
   split
   ·omega
   ·have:=findN_le (qs:=r) (j:=j) (by simpa using h)
    simpa using this
theorem fjF_there {qs:List QT}{j:Nat}(h:j<qs.length)(h2:findN qs[j].name qs<j):fjF qs (j+1)=fjF qs j:=by
 funext s
 unfold fjF
 by_cases e:findN s qs=j
 ·have h3:=findN_name (s:=s) (qs:=qs) (by omega)
  simp only[e]at h3
  rw[h3]at h2
  omega
 ·by_cases h4:findN s qs<j
  ·rw[if_pos h4,if_pos (by omega)]
  ·rw[if_neg h4,if_neg (by omega)]
theorem fjF_new {qs:List QT}{j:Nat}(h:j<qs.length)(h2:¬findN qs[j].name qs<j):(fun t=>if t=qs[j].name then some (j:Int) else fjF qs j t)=fjF qs (j+1):=by
 have h1:=findN_le h
 have h0:findN qs[j].name qs=j:=by omega
 funext s
 unfold fjF
 by_cases e:s=qs[j].name
 ·subst e
  rw[if_pos rfl,h0,if_pos (by omega)]
 ·rw[if_neg e]
  by_cases e2:findN s qs=j
  ·have h3:=findN_name (s:=s) (qs:=qs) (by omega)
   simp only[e2]at h3
   exact absurd h3.symm e
  ·by_cases h4:findN s qs<j
   ·rw[if_pos h4,if_pos (by omega)]
   ·rw[if_neg h4,if_neg (by omega)]
def amAt (n:Nat)(qs:List QT)(j:Nat):Int:=match qs[j]? with | some q=>amC n qs q (decide (findN q.name qs<j)) | none=>0
theorem amAt_at {n:Nat}{qs:List QT}{j:Nat}(h:j<qs.length):amAt n qs j=amC n qs qs[j] (decide (findN qs[j].name qs<j)):=by unfold amAt;rw[List.getElem?_eq_getElem h]
theorem amC_code (n:Nat)(qs:List QT)(q:QT)(b:Bool):0≤amC n qs q b∧amC n qs q b≤16:=by
 unfold amC
 repeat' split
 all_goals simp
theorem amAt_code (n:Nat)(qs:List QT)(j:Nat):0≤amAt n qs j∧amAt n qs j≤16:=by
 unfold amAt
 split
 ·exact amC_code _ _ _ _
 ·simp
def cksN (n:Nat)(qs:List QT):Nat→Nat→Int×Int
 | _,0=>(0, -1)
 | j,k+1=>if amAt n qs j=0 then cksN n qs (j+1) k else(amAt n qs j,(j:Int))
theorem cksN_hit {n:Nat}{qs:List QT}:∀ {k j i:Nat},i≤j→j<i+k→(∀t,i≤t→t<j→amAt n qs t=0)→amAt n qs j≠0→cksN n qs i k=(amAt n qs j,(j:Int))
 | 0,j,i,h1,h2,_,_=>by omega
 | k+1,j,i,h1,h2,h3,h4=>by
   unfold cksN
   by_cases e:i=j
   ·subst e;rw[if_neg h4]
   ·rw[if_pos (h3 i (Nat.le_refl _) (by omega))]
    exact cksN_hit (by omega) (by omega) (fun t ht ht2=>h3 t (by omega) ht2) h4
theorem cksN_miss {n:Nat}{qs:List QT}:∀ {k i:Nat},(∀t,i≤t→t<i+k→amAt n qs t=0)→cksN n qs i k=(0, -1)
 | 0,_,_=>rfl
 | k+1,i,h=>by
   unfold cksN
   rw[if_pos (h i (Nat.le_refl _) (by omega))]
   exact cksN_miss fun t h1 h2=>h t (by omega) (by omega)
def chkN (nm:ByteArray→Bool)(n:Nat)(qs:List QT):Int×Int:=if chkQ nm n qs=0 then cksN n qs 0 qs.length else(chkQ nm n qs, -1)
def NmEnd (x:Int×Int)(w:World)(r:Ending)(w':World):Prop:=∃er,r= .returned er∧ErrIs w.heap.size x.1 x.2 er w'∧Below w.heap.size w w'
theorem spot_is {B:Nat}(i:Nat)(c:Int)(hc:c≠0)(W:World)(h:B≤W.heap.size):ErrIs B c i (.iface 57 (.pointer (some ⟨W.heap.size,0,none⟩))) (W.alloc (.cells #[.int .i64 i,.iface 51 (.int .i64 c)] 59)):=by
 have hn:=heap_alloc_new W (.cells #[.int .i64 i,.iface 51 (.int .i64 c)] 59)
 refine⟨fun h=>by omega,fun _=>⟨W.heap.size,rfl,h,by simp,(cell_of_row _ _ _ _ _ _ hn).trans rfl,(cell_of_row _ _ _ _ _ _ hn).trans (by rw[codeV_ne hc];rfl)⟩⟩
structure FW (w w1:World)(a:Option Addr)(m cap:Nat)(F:ByteArray→Option Int)(J:Nat)(W:World):Prop where
 bx:Bx w [.slice a m cap] 24 W
 low:Below w1.heap.size w1 W
 c:W.cell? ⟨w1.heap.size+1,0,none⟩=some (.map (some w1.heap.size))
 s:∃k,k≤J∧SMap F k w1.heap.size W
theorem FW.step {w w1:World}{a:Option Addr}{m cap:Nat}{F:ByteArray→Option Int}{J:Nat}{W V:World}(h:FW w w1 a m cap F J W)(hb:Below W.heap.size W V):FW w w1 a m cap F J V:=
 ⟨h.bx.step hb,h.low.trans (hb.mono h.low.size),(hb.cell (p:=⟨w1.heap.size+1,0,none⟩) (block_lt_of_cell h.c)).trans h.c,let ⟨k,h1,h2⟩:=h.s;⟨k,h1,h2.up hb⟩⟩
theorem ncheck_box (n:Nat)(qs:List QT)(a:Option Addr)(m cap:Nat)(w:World)(k0:Int)(X:Int×Int)(hm:qs.length=m)(hm50:m≤50)(hs:Pak.Sits (procSh n) (Pak.Lo w.heap.size) w a qs)(hL:∀q∈qs,q.params.length≤50∧q.ghosts.length≤50)
 (hk0:0≤k0∧k0≤16) (hX0:k0≠0→X=(k0, -1)) (hX1:k0=0→X=cksN n qs 0 qs.length)
 (xs:∀W,Below w.heap.size w W→Calls Tryz.prog 13 #[.agg #[.slice a m cap]] W (ErrIn k0 W)):
 Calls Tryz.prog 7 #[.agg #[.slice a m cap]] w (NmEnd X w):=by
 have X0:=Lib.hid (Bx.start w [.slice a m cap] 24)
 have HLW:Hid (∀W,Bx w [.slice a m cap] 24 W→Below w.heap.size w W):=Lib.hid fun W hW=>hW.low (Below.refl _ _)
 have F:=Lib.hid (xs _ (HLW.out _ X0.out))
 have HS:=Lib.hid hs
 have HM:=Lib.hid hm
 have HL:=Lib.hid hL
 have hmm:m≤9223372036854775807:=by rw[←hm];exact hs.1
 have HM50:=Lib.hid hm50
 have HX0:=Lib.hid hX0
 have HX1:=Lib.hid hX1
 have HK0:=Lib.hid hk0
 have hmk:= @run_makeMap Tryz.prog
 have c0:=X0.out.at (o:=0) rfl
 clear xs hs hm hL hm50 hX0 hX1 hk0
 go_enter Tryz.func7,Tryz.ntmps7
 go_wp2_with fail
 refine F.out.mono ?_
 rintro r w1 ⟨rfl,hb⟩
 have X1:=Lib.hid (X0.out.step hb)
 have HB1:=Lib.hid (HLW.out _ X1.out)
 clear hb F c0
 by_cases hz:k0=0
 ·subst hz
  have e0:erV 0= .nilIface:=rfl
  rw[e0]
  have HXE:=Lib.hid (HX1.out rfl)
  have HHIT:Hid (∀j,j<m→(∀t,t<j→amAt n qs t=0)→amAt n qs j≠0→X=(amAt n qs j,(j:Int))):=Lib.hid fun j hj h1 h2=>by rw[HXE.out];exact cksN_hit (Nat.zero_le _) (by rw[HM.out];omega) (fun t _ ht=>h1 t ht) h2
  have HMISS:Hid ((∀t,t<m→amAt n qs t=0)→X=(0, -1)):=Lib.hid fun h=>by rw[HXE.out];exact cksN_miss fun t _ ht=>h t (by rw[←HM.out];omega)
  have g0:=X1.out.at (o:=0) rfl
  have hA:Below w1.heap.size w1 ((w1.alloc (.map #[] 0)).alloc (.cells #[.map (some w1.heap.size)] 53)):=((Below.refl _ _).alloc (Nat.le_refl _) _).alloc (by simp) _
  have W0:Hid (FW w w1 a m cap (fjF qs 0) 0 ((w1.alloc (.map #[] 0)).alloc (.cells #[.map (some w1.heap.size)] 53))):=Lib.hid ⟨X1.out.step hA,hA,by simp[go_sem],0,by omega,by rw[fjF_zero];exact(SMap.made w1).alloc _⟩
  have gA:=W0.out.bx.at (o:=0) rfl
  clear HXE HX0 HX1 hA
  go_wp2_with fail
  clear g0 gA
  go_loopw [22] (fun i wr=>∃j:Nat,j≤m∧i= .int .i64 j∧Hid (FW w w1 a m cap (fjF qs j) j wr)) (fun i _=>m - (intOf i).toNat)
  case atStart=>exact⟨0,Nat.zero_le _,rfl,W0⟩
  case round=>
   obtain⟨j,hj,rfl,hfw⟩:=hrel
   obtain⟨wo,rfl⟩:∃wo:World,wo=wr:=⟨_,rfl⟩
   have FWo:=Lib.hid hfw.out
   have HBo:=Lib.hid (HLW.out _ hfw.out.bx)
   by_cases hlt:j<m
   ·have hlx:j<qs.length:=by rw[HM.out];exact hlt
    have hji:(j:Int)<(m:Int):=by omega
    obtain⟨b,off,cs,rfl,hbl,hc,hr⟩:=(HS.out.below HBo.out HBo.out.size).2 j hlx
    obtain⟨ca,cb,a1,a2,a3,d1,d2,d3,H⟩:=proc_is hr
    rw[procSh_k]at hc
    have HC0:Hid (∀i v,cs[i]? =some v→wo.cell? ((⟨b,off+j*34,none⟩:Addr).add i)=some v):=fun i v hv=>by
     rw[show(⟨b,off+j*34,none⟩:Addr).add i=⟨b,off+j*34+i,none⟩ by unfold Addr.add;split<;>simp_all]
     exact hc i v hv
    have HCL:=Lib.hid H.len
    have HO:=Lib.hid H.one
    have HA:Hid (Below wo.heap.size wo (wo.alloc (.cells cs.toArray 49))):=box_low
    have F1:=Lib.hid (FWo.out.step HA.out)
    have k0:(wo.alloc (.cells cs.toArray 49)).cell? ⟨wo.heap.size,0,none⟩=_:=box_at H.name (Below.refl _ _)
    have c4:=F1.out.c
    obtain⟨kk,hkk,hsm⟩:=F1.out.s
    have hlk:=hsm.look2 H.num
    have HJF:=Lib.hid (And.intro (fun h=>fjF_there (qs:=qs) (j:=j) hlx h) (fun h=>fjF_new (qs:=qs) (j:=j) hlx h))
    by_cases hf:findN qs[j].name qs<j
    ·have hF:fjF qs j qs[j].name=some (findN qs[j].name qs:Int):=if_pos hf
     rw[hF]at hlk
     have FN:Hid (FW w w1 (some ⟨b,off,none⟩) m cap (fjF qs (j+1)) (j+1) (wo.alloc (.cells cs.toArray 49))):=Lib.hid (by rw[HJF.out.1 hf];exact⟨F1.out.bx,F1.out.low,F1.out.c,kk,Nat.le_succ_of_le hkk,hsm⟩)
     clear hc hr H hfw hsm HJF hf hF
     generalize findN qs[j].name qs=fn at*
     generalize qs[j].name=nm at*
     go_wp2_with (first | go_skip | (refine wpList_store_new (by kernel_rfl) 49 _ _ rfl _ rfl cs rfl (by rw[HCL.out];kernel_rfl) (by rw[HCL.out];rfl) HO.out ?_) | (refine wpList_load_w (by kernel_rfl) 49 _ rfl ⟨b,off+j*34,none⟩ rfl cs _ HC0.out Tryz.underlying49 rfl (by rw[HCL.out];kernel_rfl) ?_))
     go_roundw
     case rel=>exact⟨j+1,by omega,by go_num,FN⟩
     case measure=>simp[intOf];omega
    ·have hF:fjF qs j qs[j].name=none:=if_neg hf
     rw[hF]at hlk
     obtain⟨w2,hput,hsm2,hg⟩:=hsm.put H.num (v:=(j:Int)) (by have:=HM50.out;omega) (by have:=HM50.out;omega)
     rw[HJF.out.2 hf]at hsm2
     have FN:Hid (FW w w1 (some ⟨b,off,none⟩) m cap (fjF qs (j+1)) (j+1) w2):=Lib.hid ⟨by
      have h1:=grown_map hg (B:=w1.heap.size) (Nat.le_refl _) F1.out.low.size
      exact F1.out.bx.trans (h1.mono X1.out.size),F1.out.low.trans (grown_map hg (Nat.le_refl _) F1.out.low.size),(World.cell?_of_block (hg.block _ (block_lt_of_cell c4) (by simp))).trans c4,⟨kk+1,Nat.succ_le_succ hkk,hsm2⟩⟩
     clear hc hr H hfw hsm HJF hf hF hsm2 hg
     generalize qs[j].name=nm at*
     go_wp2_with (first | go_skip | (refine wpList_store_new (by kernel_rfl) 49 _ _ rfl _ rfl cs rfl (by rw[HCL.out];kernel_rfl) (by rw[HCL.out];rfl) HO.out ?_) | (refine wpList_load_w (by kernel_rfl) 49 _ rfl ⟨b,off+j*34,none⟩ rfl cs _ HC0.out Tryz.underlying49 rfl (by rw[HCL.out];kernel_rfl) ?_))
     go_roundw
     case rel=>exact⟨j+1,by omega,by go_num,FN⟩
     case measure=>simp[intOf];omega
   ·obtain rfl:j=m:=by omega
    have hji:¬(j:Int)<(j:Int):=by omega
    have FE:Hid (FW w w1 a j cap (frsF qs) j wo):=Lib.hid (by have h:=FWo.out;rwa [←HM.out,fjF_all,HM.out]at h)
    clear hfw FWo
    have g0:=FE.out.bx.at (o:=0) rfl
    go_wp2_with fail
    clear g0
    go_loopw [44] (fun i wr=>∃t:Nat,t≤j∧i= .int .i64 t∧Hid (∀u,u<t→amAt n qs u=0)∧Hid (FW w w1 a j cap (frsF qs) j wr)) (fun i _=>j - (intOf i).toNat)
    case atStart=>exact⟨0,Nat.zero_le _,rfl,fun u h=>absurd h (Nat.not_lt_zero _),FE⟩
    case round=>
     obtain⟨t,ht,rfl,hno,hfw⟩:=hrel
     clear FE HBo
     obtain⟨wq,rfl⟩:∃wq:World,wq=wr:=⟨_,rfl⟩
     have FWo:=Lib.hid hfw.out
     have HBo:=Lib.hid (HLW.out _ hfw.out.bx)
     by_cases hlt:t<j
     ·have hlx:t<qs.length:=by rw[HM.out];exact hlt
      have hti:(t:Int)<(j:Int):=by omega
      obtain⟨b,off,cs,rfl,hbl,hc,hr⟩:=(HS.out.below HBo.out HBo.out.size).2 t hlx
      have HLQ:=Lib.hid (HL.out qs[t] (List.getElem_mem hlx))
      obtain⟨ca,cb,a1,a2,a3,d1,d2,d3,H⟩:=proc_is hr
      rw[procSh_k]at hc
      have HC0:Hid (∀i v,cs[i]? =some v→wq.cell? ((⟨b,off+t*34,none⟩:Addr).add i)=some v):=fun i v hv=>by
       rw[show(⟨b,off+t*34,none⟩:Addr).add i=⟨b,off+t*34+i,none⟩ by unfold Addr.add;split<;>simp_all]
       exact hc i v hv
      have HCL:=Lib.hid H.len
      have HO:=Lib.hid H.one
      have HA:Hid (Below wq.heap.size wq (wq.alloc (.cells cs.toArray 49))):=box_low
      have F1:=Lib.hid (FWo.out.step HA.out)
      have HX:Hid (∀i v,cs[i]? =some v→(wq.alloc (.cells cs.toArray 49)).cell? ((⟨wq.heap.size,0,none⟩:Addr).add i)=some v):=box_part (o:=0) (fun i v h=>by rw[Nat.zero_add];exact h) (Below.refl _ _)
      have k0:(wq.alloc (.cells cs.toArray 49)).cell? ⟨wq.heap.size,0,none⟩=_:=box_at H.name (Below.refl _ _)
      have c4:=F1.out.c
      obtain⟨kk,hkk,hsm⟩:=F1.out.s
      have hlk:=hsm.look H.num
      have hfl:findN qs[t].name qs<qs.length:=by have:=findN_le hlx;omega
      have hF:frsF qs qs[t].name=some (findN qs[t].name qs:Int):=if_pos hfl
      rw[hF,Option.getD_some]at hlk
      have G:=Lib.hid (amiss_any n qs[t] cs (decide (findN qs[t].name qs<t)) 14 (.pointer (some ⟨w1.heap.size+1,0,none⟩)) (.pointer (some ⟨w.heap.size,0,none⟩)) qs (wq.alloc (.cells cs.toArray 49)) (fun args w=>by kernel_rfl) HLQ.out.1 HLQ.out.2 (rel_low hr HA.out) (callee_any n kk w1.heap.size (w1.heap.size+1) w.heap.size j cap _ qs _ c4 hsm (F1.out.bx.at (o:=0) rfl) HM.out (HS.out.below (HLW.out _ F1.out.bx) (HLW.out _ F1.out.bx).size)))
      rw[←amAt_at hlx]at G
      have hd:decide ((findN qs[t].name qs:Int)<(t:Int))=decide (findN qs[t].name qs<t):=by simp
      have HH:=Lib.hid (HHIT.out t hlt hno.out)
      have HN:Hid (amAt n qs t=0→∀u,u<t+1→amAt n qs u=0):=fun h u hu=>by
       by_cases e:u=t
       ·subst e;exact h
       ·exact hno.out u (by omega)
      have HAC:=Lib.hid (amAt_code n qs t)
      clear hc hr H hfw hsm hF hfl hno
      generalize hzb:decide (findN qs[t].name qs<t)=zb at G hd
      generalize findN qs[t].name qs=fn at*
      generalize qs[t].name=nm at*
      generalize amAt n qs t=cd at*
      go_wp2_with (first | go_skip | (refine wpList_store_new (by kernel_rfl) 49 _ _ rfl _ rfl cs rfl (by rw[HCL.out];kernel_rfl) (by rw[HCL.out];rfl) HO.out ?_) | (refine wpList_load_w (by kernel_rfl) 49 _ rfl ⟨b,off+t*34,none⟩ rfl cs _ HC0.out Tryz.underlying49 rfl (by rw[HCL.out];kernel_rfl) ?_) | (refine wpList_load_w (by kernel_rfl) 49 _ rfl ⟨wq.heap.size,0,none⟩ rfl cs _ HX.out Tryz.underlying49 rfl (by rw[HCL.out];kernel_rfl) ?_))
      refine G.out.mono ?_
      rintro r w2 ⟨rfl,hb⟩
      have F2:=Lib.hid (F1.out.step hb)
      clear hb G HX HC0 HO HCL k0 c4 hlk
      by_cases hz:cd=0
      ·have HN2:=Lib.hid (HN.out hz)
       subst hz
       clear HH HN HAC
       go_wp2_with fail
       go_roundw
       case rel=>exact⟨t+1,by omega,by go_num,HN2,F2⟩
       case measure=>simp[intOf];omega
      ·have HXT:=Lib.hid (HH.out hz)
       have e1:(cd == 0)=false:=beq_eq_false_iff_ne.2 hz
       have e2:(cd != 0)=true:=by rw[bne,e1];rfl
       have hB:=(HLW.out _ F2.out.bx)
       have HE:Hid (ErrIs w.heap.size X.1 X.2 (.iface 57 (.pointer (some ⟨w2.heap.size,0,none⟩))) (w2.alloc (.cells #[.int .i64 t,.iface 51 (.int .i64 cd)] 59))):=Lib.hid (by rw[HXT.out];exact spot_is t cd hz w2 hB.size)
       have HBE:=Lib.hid (hB.alloc hB.size (.cells #[.int .i64 t,.iface 51 (.int .i64 cd)] 59))
       clear hz HH HN HXT hB
       go_wp2_with fail
       go_ret
       exact⟨_,rfl,HE.out,HBE.out⟩
     ·obtain rfl:t=j:=by omega
      have hti:¬(t:Int)<(t:Int):=by omega
      have HXM:=Lib.hid (HMISS.out hno.out)
      have HE:Hid (ErrIs w.heap.size X.1 X.2 .nilIface wq):=Lib.hid (by
       rw[HXM.out]
       exact⟨fun _=>rfl,fun h=>absurd h (show ¬(0:Int)≤ -1 by decide)⟩)
      clear hno hfw HXM
      go_wp2_with fail
      go_ret
      exact⟨_,rfl,HE.out,HBo.out⟩
 ·have e0:erV k0= .iface 51 (.int .i64 k0):=if_neg hz
  rw[e0]
  have HXE:Hid (ErrIs w.heap.size X.1 X.2 (.iface 51 (.int .i64 k0)) w1):=Lib.hid (by
   rw[HX0.out hz]
   exact⟨fun _=>(codeV_ne hz).symm,fun h=>absurd h (show ¬(0:Int)≤ -1 by decide)⟩)
  clear hz HX0 HX1 e0
  go_wp2_with fail
  go_ret
  exact⟨_,rfl,HXE.out,HB1.out⟩
theorem chkQ_code (nm:ByteArray→Bool)(n:Nat)(qs:List QT):0≤chkQ nm n qs∧chkQ nm n qs≤16:=by
 unfold chkQ
 cases qs.any dpQ<;>cases qs.all (snQ nm n)<;>simp
theorem ncheck_any {nm:ByteArray→Bool}(hN:NameLaw nm Laid)(n:Nat)(qs:List QT)(a:Option Addr)(cap:Nat)(w:World)(hs:Pak.Sits (procSh n) (Pak.Lo w.heap.size) w a qs)(h50:qs.length≤50)(hl:∀q∈qs,q.params.length≤50∧q.ghosts.length≤50)(hL:Laid w):
 Calls Tryz.prog 7 #[.agg #[.slice a qs.length cap]] w (NmEnd (chkN nm n qs) w):=
 ncheck_box n qs a qs.length cap w (chkQ nm n qs) (chkN nm n qs) rfl h50 hs hl (chkQ_code nm n qs) (fun h=>if_neg h) (fun h=>if_pos h) fun W hW=>check_prog hN n qs a cap W (hs.below hW hW.size) (hL.up hW)
end
end Go.Proofs.YtfcaclmcnlflfaaGreatDoor
