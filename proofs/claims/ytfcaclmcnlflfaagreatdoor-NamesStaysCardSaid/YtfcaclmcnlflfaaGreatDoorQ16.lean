/- Parts of a proof. -/
import Derived.Test.YtfcaclmcnlflfaaGreatDoorQ14
import Derived.Deep.RegionWith
import Derived.Deep.RegionHeld3
import Derived.Deep.CutBlock
import Derived.Deep.DeepCutAuto
set_option linter.unusedVariables false
set_option linter.unusedSimpArgs false
set_option maxHeartbeats 60000000
set_option maxRecDepth 100000
namespace Go.Proofs.YtfcaclmcnlflfaaGreatDoor
section
open Go.RowKit
def cntB (qs:List QT)(s:ST):Bool:= !(s.p.kind == 9) || (((s.p.args.length:Int) == (calP s.p.callee qs:Int)) && ((s.p.ghosts.length:Int) == (calG s.p.callee qs:Int)))
theorem counted_box (k:Int)(s3:ByteArray)(cs:List Value)(a1 a2:Option Addr)(m1 m2 c1 c2 gq:Nat)(y1 y2:Value)(qs:List QT)(kb:Bool)(w:World)(hkb:(k == 9)=kb)(hs3:s3.size≤maxLen)(eg:∀args w,(callFunc gq args).run Tryz.prog w= .ok (.enter gq args) w)
 (q0:cs[0]? =some (.int .i64 k)) (q3:cs[3]? =some (.string s3)) (q30:cs[30]? =some (.slice a1 m1 c1)) (q31:cs[31]? =some (.slice a2 m2 c2)) (hq:CalLaw gq y1 y2 qs w):
 Calls Tryz.prog 42 #[.agg cs.toArray,.func (.func gq) #[] #[y1,y2]] w (SoundEnd (!kb || (((m1:Int) == (calP s3 qs:Int)) && ((m2:Int) == (calG s3 qs:Int)))) w):=by
 have X0:=Lib.hid (Bx.start w cs 47)
 have HLW:Hid (∀W,Bx w cs 47 W→Below w.heap.size w W):=Lib.hid fun W hW=>hW.low (Below.refl _ _)
 have Q30:=Lib.hid q30
 have Q31:=Lib.hid q31
 have k0:=X0.out.at (o:=0) q0
 have k3:=X0.out.at (o:=3) q3
 have hnb:(k != 9)= !kb:=by rw[←hkb];rfl
 have F:=Lib.hid (hq s3 hs3 _ (HLW.out _ X0.out))
 clear hq q0 q3 q30 q31 hs3
 cases kb with
 | false=>
   go_enter Tryz.func42,Tryz.ntmps42
   go_wp2_with fail
   go_ret
   exact⟨by simp,HLW.out _ X0.out⟩
 | true=>
   go_enter Tryz.func42,Tryz.ntmps42
   go_wp2_with fail
   refine F.out.mono ?_
   rintro r w2 ⟨c,b1,e1,b2,e2,rfl,hcl,hco,hc1,hc2,hb⟩
   have X2:=Lib.hid (X0.out.step hb)
   have HA:Hid (Below w2.heap.size w2 (w2.alloc (.cells c.toArray 49))):=box_low
   have X3:=Lib.hid (X2.out.step HA.out)
   have k30:=X3.out.at (o:=30) Q30.out
   have k31:=X3.out.at (o:=31) Q31.out
   have p1:(w2.alloc (.cells c.toArray 49)).cell? ⟨w2.heap.size,1,none⟩=_:=box_at hc1 (Below.refl _ _)
   have p2:(w2.alloc (.cells c.toArray 49)).cell? ⟨w2.heap.size,2,none⟩=_:=box_at hc2 (Below.refl _ _)
   have HCL:=Lib.hid hcl
   have HCO:=Lib.hid hco
   have HB3:=Lib.hid (HLW.out _ X3.out)
   clear hb hcl hco hc1 hc2 F k0 k3
   generalize calB s3 qs=zb at*
   generalize calP s3 qs=P at*
   generalize calG s3 qs=G at*
   generalize hz1:((m1:Int) == (P:Int))=z1
   generalize hz2:((m2:Int) == (G:Int))=z2
   have hz1':(m1 == P)=z1:=by rw[←hz1,Bool.eq_iff_iff];simp only[beq_iff_eq];omega
   have hz2':(m2 == G)=z2:=by rw[←hz2,Bool.eq_iff_iff];simp only[beq_iff_eq];omega
   cases z1 with
   | false=>
     go_wp2_with (first | go_skip | (refine wpList_store_new (by kernel_rfl) 49 _ _ rfl _ rfl c rfl (by rw[HCL.out];kernel_rfl) (by rw[HCL.out];rfl) HCO.out ?_))
     go_ret
     exact⟨by first | (rw[hz1,hz2];rfl) | (rw[hz1];rfl),HB3.out⟩
   | true=>
     cases z2 with
     | false=>
       go_wp2_with (first | go_skip | (refine wpList_store_new (by kernel_rfl) 49 _ _ rfl _ rfl c rfl (by rw[HCL.out];kernel_rfl) (by rw[HCL.out];rfl) HCO.out ?_))
       go_ret
       exact⟨by first | (rw[hz1,hz2];rfl) | (rw[hz1];rfl),HB3.out⟩
     | true=>
       go_wp2_with (first | go_skip | (refine wpList_store_new (by kernel_rfl) 49 _ _ rfl _ rfl c rfl (by rw[HCL.out];kernel_rfl) (by rw[HCL.out];rfl) HCO.out ?_))
       go_ret
       exact⟨by first | (rw[hz1,hz2];rfl) | (rw[hz1];rfl),HB3.out⟩
theorem amiss1_any (k:Nat)(s:ST)(cs:List Value)(c5 gq:Nat)(y1 y2:Value)(qs:List QT)(w:World)(eg:∀args w,(callFunc gq args).run Tryz.prog w= .ok (.enter gq args) w)(h5:w.cell? ⟨c5,0,none⟩=some (.func (.func gq) #[] #[y1,y2]))(hq:CalLaw gq y1 y2 qs w)(hr:(stmtSh k).rel (Pak.Lo w.heap.size) w cs s):
 BoolAll 41 #[.agg cs.toArray,.pointer (some ⟨c5,0,none⟩)] (cntB qs s) w:=fun W hW=>by
 cases k with
 | zero=>exact hr.elim
 | succ n=>
   obtain⟨ce,cv,cc,ca,u1,u2,u3',u4,u5,c1,c2,c3,c4,c5',H⟩:=stmt_is (rel_low hr hW)
   have g5:=(hW.cell (p:=⟨c5,0,none⟩) (block_lt_of_cell h5)).trans h5
   have X0:=Lib.hid (Bx.start W cs 47)
   have HLW:Hid (∀V,Bx W cs 47 V→Below W.heap.size W V):=Lib.hid fun V hV=>hV.low (Below.refl _ _)
   have k5:=((HLW.out _ X0.out).cell (p:=⟨c5,0,none⟩) (block_lt_of_cell g5)).trans g5
   have F:=Lib.hid (counted_box s.p.kind s.p.callee cs u1 u2 s.p.args.length s.p.ghosts.length c1 c2 gq y1 y2 qs _ _ rfl H.nums.2.2.2 eg H.kind H.callee H.args H.ghosts (hq.up (hW.trans ((HLW.out _ X0.out).mono hW.size))))
   have HX:Hid (∀i v,cs[i]? =some v→(W.alloc (.cells cs.toArray 47)).cell? ((⟨W.heap.size,0,none⟩:Addr).add i)=some v):=box_part (o:=0) (fun i v h=>by rw[Nat.zero_add];exact h) (Below.refl _ _)
   have HL:=Lib.hid H.len
   clear hr H h5 hq g5 hW
   change Calls _ _ _ _ (SoundEnd (!(s.p.kind == 9) || (((s.p.args.length:Int) == (calP s.p.callee qs:Int)) && ((s.p.ghosts.length:Int) == (calG s.p.callee qs:Int)))) W)
   generalize (!(s.p.kind == 9) || (((s.p.args.length:Int) == (calP s.p.callee qs:Int)) && ((s.p.ghosts.length:Int) == (calG s.p.callee qs:Int))))=z at*
   go_enter Tryz.func41,Tryz.ntmps41
   go_wp2_with (first | go_skip | (refine wpList_load_w (by kernel_rfl) 47 _ rfl ⟨W.heap.size,0,none⟩ rfl cs _ HX.out Tryz.underlying47 rfl (by rw[HL.out];kernel_rfl) ?_))
   refine F.out.mono ?_
   rintro r w2 ⟨rfl,hb⟩
   have HB:=Lib.hid (HLW.out _ (X0.out.step hb))
   clear hb F
   go_wp2_with fail
   go_ret
   exact⟨rfl,HB.out⟩
theorem amiss2_any (n:Nat)(s:ST)(cs:List Value)(w:World)(hr:(stmtSh (n+1)).rel (Pak.Lo w.heap.size) w cs s):
 BoolAll 44 #[.agg cs.toArray] (!prA n s.p.a) w:=fun W hW=>by
 obtain⟨ce,cv,cc,ca,u1,u2,u3',u4,u5,c1,c2,c3,c4,c5',H⟩:=stmt_is (rel_low hr hW)
 have X0:=Lib.hid (Bx.start W cs 47)
 have HLW:Hid (∀V,Bx W cs 47 V→Below W.heap.size W V):=Lib.hid fun V hV=>hV.low (Below.refl _ _)
 have F:=Lib.hid (shares16_any n s.p.a ca _ (rel_low H.ra (HLW.out _ X0.out)))
 have PA:=Lib.hid (box_part H.pa X0.out)
 have LA:=Lib.hid (((assnSh n).len H.ra).trans (assnSh_k _))
 clear hr H hW
 generalize (!prA n s.p.a)=z at*
 go_enter Tryz.func44,Tryz.ntmps44
 go_wp2_with (first | go_skip | (refine wpList_load_w (by kernel_rfl) 44 _ rfl ⟨W.heap.size,15,none⟩ rfl ca _ PA.out Tryz.underlying44 rfl (by rw[LA.out];kernel_rfl) ?_))
 refine F.out.mono ?_
 rintro r w2 ⟨rfl,hb⟩
 have HB:=Lib.hid (HLW.out _ (X0.out.step hb))
 clear hb F
 go_wp2_with fail
 go_ret
 exact⟨rfl,HB.out⟩
def knB (pm:ByteArray→Bool)(qs:List QT)(gh:List ByteArray)(n:Nat)(s:ST):Bool:=(!pm s.p.name && (calB s.p.callee qs || !(s.p.kind == 9))) && (rdS n s).all (fun x=> !hasW x gh)
theorem known2_box (k:Int)(s1 s3:ByteArray)(cs:List Value)(c5 c8 c9 gq gm:Nat)(y1 y2 um:Value)(qs:List QT)(kb z1 z3:Bool)(w:World)(hl:cs.length=35)(hkb:(k == 9)=kb)(hs3:s3.size≤maxLen)
 (eg:∀args w,(callFunc gq args).run Tryz.prog w= .ok (.enter gq args) w) (em:∀args w,(callFunc gm args).run Tryz.prog w= .ok (.enter gm args) w)
 (h5:w.cell? ⟨c5,0,none⟩=some (.func (.func gq) #[] #[y1,y2])) (h9:w.cell? ⟨c9,0,none⟩=some (.func (.func gm) #[] #[um]))
 (q0:cs[0]? =some (.int .i64 k)) (q1:cs[1]? =some (.string s1)) (q3:cs[3]? =some (.string s3)) (hq:CalLaw gq y1 y2 qs w) (hm:BoolAll gm #[.string s1,um] z1 w)
 (hrd:BoolAll 79 #[.agg cs.toArray,.func (.func 80) #[] #[.pointer (some ⟨c8,0,none⟩)]] z3 w):
 Calls Tryz.prog 78 #[.agg cs.toArray,.pointer (some ⟨c5,0,none⟩),.pointer (some ⟨c9,0,none⟩),.pointer (some ⟨c8,0,none⟩)] w (SoundEnd ((!z1 && (calB s3 qs || !kb)) && z3) w):=by
 have X0:=Lib.hid (Bx.start w cs 47)
 have HLW:Hid (∀W,Bx w cs 47 W→Below w.heap.size w W):=Lib.hid fun W hW=>hW.low (Below.refl _ _)
 have H5:=Lib.hid (fun W (hW:Below w.heap.size w W)=>(hW.cell (p:=⟨c5,0,none⟩) (block_lt_of_cell h5)).trans h5)
 have H9:=Lib.hid (fun W (hW:Below w.heap.size w W)=>(hW.cell (p:=⟨c9,0,none⟩) (block_lt_of_cell h9)).trans h9)
 have Q0:=Lib.hid q0
 have Q1:=Lib.hid q1
 have HX:=Lib.hid (fun W (hb:Bx w cs 47 W)=>box_part (cs:=cs) (l:=cs) (o:=0) (fun i v h=>by rw[Nat.zero_add];exact h) hb)
 have HL:=Lib.hid hl
 have XM:=Lib.hid hm
 have XR:=Lib.hid hrd
 have k3:=X0.out.at (o:=3) q3
 have k5:=H5.out _ (HLW.out _ X0.out)
 have hnb:(k != 9)= !kb:=by rw[←hkb];rfl
 have F:=Lib.hid (hq s3 hs3 _ (HLW.out _ X0.out))
 clear hq q0 q1 q3 hs3 h5 h9 hm hrd hl
 go_enter Tryz.func78,Tryz.ntmps78
 go_wp2_with fail
 refine F.out.mono ?_
 rintro r w2 ⟨c,b1,e1,b2,e2,rfl,hcl,hco,hc1,hc2,hb⟩
 have X2:=Lib.hid (X0.out.step hb)
 have X3:=Lib.hid (X2.out.alloc c.toArray 49)
 have k1:=X3.out.at (o:=1) Q1.out
 have k9:=H9.out _ (HLW.out _ X3.out)
 have HCL:=Lib.hid hcl
 have HCO:=Lib.hid hco
 have G:=Lib.hid (XM.out.at (HLW.out _ X3.out))
 clear hb hcl hco hc1 hc2 F k3 k5
 generalize calB s3 qs=zb at*
 go_wp2_with (first | go_skip | (refine wpList_store_new (by kernel_rfl) 49 _ _ rfl _ rfl c rfl (by rw[HCL.out];kernel_rfl) (by rw[HCL.out];rfl) HCO.out ?_))
 refine G.out.mono ?_
 rintro r w4 ⟨rfl,hb⟩
 have X4:=Lib.hid (X3.out.step hb)
 have k0:=X4.out.at (o:=0) Q0.out
 have HB4:=Lib.hid (HLW.out _ X4.out)
 clear hb G k1 k9
 cases z1 with
 | true=>
   go_wp2_with fail
   go_ret
   exact⟨by simp,HB4.out⟩
 | false=>
 have R:=Lib.hid (XR.out.at HB4.out)
 cases zb with
 | true=>
   go_wp2_with (first | go_skip | (refine wpList_load_w (by kernel_rfl) 47 _ rfl ⟨w.heap.size,0,none⟩ rfl cs _ (HX.out _ X4.out) Tryz.underlying47 rfl (by rw[HL.out];kernel_rfl) ?_))
   refine R.out.mono ?_
   rintro r w5 ⟨rfl,hb⟩
   have HB5:=Lib.hid (HLW.out _ (X4.out.step hb))
   clear hb R
   go_wp2_with fail
   go_ret
   exact⟨by simp,HB5.out⟩
 | false=>
   cases kb with
   | true=>
     go_wp2_with fail
     go_ret
     exact⟨by simp,HB4.out⟩
   | false=>
     go_wp2_with (first | go_skip | (refine wpList_load_w (by kernel_rfl) 47 _ rfl ⟨w.heap.size,0,none⟩ rfl cs _ (HX.out _ X4.out) Tryz.underlying47 rfl (by rw[HL.out];kernel_rfl) ?_))
     refine R.out.mono ?_
     rintro r w5 ⟨rfl,hb⟩
     have HB5:=Lib.hid (HLW.out _ (X4.out.step hb))
     clear hb R
     go_wp2_with fail
     go_ret
     exact⟨by simp,HB5.out⟩
theorem known2_any (n:Nat)(s:ST)(cs:List Value)(c5 c8 c9 gq gm k mp:Nat)(y1 y2 um:Value)(qs:List QT)(pm:ByteArray→Bool)(gh:List ByteArray)(w:World)
 (eg:∀args w,(callFunc gq args).run Tryz.prog w= .ok (.enter gq args) w) (em:∀args w,(callFunc gm args).run Tryz.prog w= .ok (.enter gm args) w)
 (h5:w.cell? ⟨c5,0,none⟩=some (.func (.func gq) #[] #[y1,y2])) (h9:w.cell? ⟨c9,0,none⟩=some (.func (.func gm) #[] #[um])) (h8:w.cell? ⟨c8,0,none⟩=some (.map (some mp))) (hs:SMap (setF gh) k mp w) (hq:CalLaw gq y1 y2 qs w) (hm:SChk gm um pm w) (hr:(stmtSh (n+1)).rel (Pak.Lo w.heap.size) w cs s):
 BoolAll 78 #[.agg cs.toArray,.pointer (some ⟨c5,0,none⟩),.pointer (some ⟨c9,0,none⟩),.pointer (some ⟨c8,0,none⟩)] (knB pm qs gh n s) w:=fun W hW=>by
 have hrW:=rel_low hr hW
 obtain⟨ce,cv,cc,ca,u1,u2,u3',u4,u5,c1,c2,c3,c4,c5',H⟩:=stmt_is hrW
 exact known2_box s.p.kind s.p.name s.p.callee cs c5 c8 c9 gq gm y1 y2 um qs _ _ _ W H.len rfl H.nums.2.2.2 eg em ((hW.cell (p:=⟨c5,0,none⟩) (block_lt_of_cell h5)).trans h5) ((hW.cell (p:=⟨c9,0,none⟩) (block_lt_of_cell h9)).trans h9) H.kind H.name H.callee (hq.up hW) ((hm s.p.name H.nums.2.1).up hW)
  (read_any 80 (.pointer (some ⟨c8,0,none⟩)) (fun x=> !hasW x gh) (fun args w=>by kernel_rfl) n s cs W (known21_any (setF gh) k mp c8 (fun x=> !hasW x gh) (fun s=>by unfold setF;cases hasW s gh<;>rfl) W ((hW.cell (p:=⟨c8,0,none⟩) (block_lt_of_cell h8)).trans h8) (hs.up hW)) hrW)
end
section
open Go.RowKit
structure LB (W:World)(g:Nat):Prop where
 lt:g<W.heap.size
 c:W.cell? ⟨g,0,none⟩=some (.map none)
 f:W.frozen? ⟨g,0,none⟩=false
theorem LB.below {W V:World}{g:Nat}(h:LB W g)(hb:Below W.heap.size W V):LB V g:=⟨Nat.lt_of_lt_of_le h.lt hb.size,(hb.cell (p:=⟨g,0,none⟩) h.lt).trans h.c,(hb.frozen (p:=⟨g,0,none⟩) h.lt).trans h.f⟩
theorem LB.new (W:World):LB (W.alloc (.cells #[.map none] 53)) W.heap.size:=⟨by simp,by simp[go_sem],by simp[go_sem]⟩
theorem LB.more {W:World}{g:Nat}(h:LB W g):LB (W.alloc (.cells #[.map none] 53)) g:=h.below ((Below.refl _ _).alloc (Nat.le_refl _) _)
theorem LB.new2 (W:World):LB ((W.alloc (.cells #[.map none] 53)).alloc (.cells #[.map none] 53)) (W.heap.size+1):=by
 have h:=LB.new (W.alloc (.cells #[.map none] 53))
 simpa using h
theorem SMap.alloc {F:ByteArray→Option Int}{m mp:Nat}{w:World}(h:SMap F m mp w)(o:Obj):SMap F m mp (w.alloc o):=h.up ((Below.refl _ _).alloc (Nat.le_refl _) _)
theorem SMap.ne {F:ByteArray→Option Int}{m mp g:Nat}{w:World}(h:SMap F m mp w){u:Value}(hc:w.cell? ⟨g,0,none⟩=some u):mp≠g:=fun e=>by
 obtain⟨D,⟨es,clock,hb,_⟩,_⟩:=h.ex
 subst e
 simp[World.cell?,hb]at hc
theorem SMap.set {F:ByteArray→Option Int}{m mp g:Nat}{w:World}(h:SMap F m mp w)(hne:mp≠g)(v:Value):SMap F m mp (w.setCell ⟨g,0,none⟩ v):=h.keep (Below.heap_setCell _ _ _ _ hne)
theorem ne_gt {a b:Nat}(h:a<b):¬b=a:=fun e=>Nat.lt_irrefl _ (e ▸ h)
theorem ne_lt {a b:Nat}(h:a<b):¬a=b:=fun e=>Nat.lt_irrefl _ (e ▸ h)
theorem keepS {W:World}{b:Nat}{u:Value}(h:W.cell? ⟨b,2,none⟩=some u)(g:Nat)(v:Value):(W.setCell ⟨g,0,none⟩ v).cell? ⟨b,2,none⟩=some u:=by
 rw[World.cell?_setCell_other _ _ _ _ (by simp)];exact h
theorem keepA {W:World}{b:Nat}{u:Value}(h:W.cell? ⟨b,2,none⟩=some u)(o:Obj):(W.alloc o).cell? ⟨b,2,none⟩=some u:=(World.cell?_alloc_past _ _ _ (block_lt_of_cell h)).trans h
structure YW (w:World)(cs:List Value)(gq:Nat)(y1 y2:Value)(W:World):Prop where
 b:Below (w.heap.size+1+1) ((w.alloc (.cells cs.toArray 49)).alloc (.cells #[.func (.func gq) #[] #[y1,y2]] 55)) W
theorem YW.sz {w:World}{cs:List Value}{gq:Nat}{y1 y2:Value}{W:World}(h:YW w cs gq y1 y2 W):w.heap.size+1+1≤W.heap.size:=by
 have:=h.b.size
 simpa using this
theorem YW.bx {w:World}{cs:List Value}{gq:Nat}{y1 y2:Value}{W:World}(h:YW w cs gq y1 y2 W):Bx w cs 49 W:=Below.trans ((Bx.start w cs _).alloc _ _) (h.b.mono (by simp))
theorem YW.step {w:World}{cs:List Value}{gq:Nat}{y1 y2:Value}{W V:World}(h:YW w cs gq y1 y2 W)(hb:Below W.heap.size W V):YW w cs gq y1 y2 V:=⟨h.b.trans (hb.mono h.sz)⟩
theorem YW.alloc {w:World}{cs:List Value}{gq:Nat}{y1 y2:Value}{W:World}(h:YW w cs gq y1 y2 W)(c:Array Value)(t:TypeId):YW w cs gq y1 y2 (W.alloc (.cells c t)):=h.step ((Below.refl _ _).alloc (Nat.le_refl _) _)
theorem YW.set {w:World}{cs:List Value}{gq:Nat}{y1 y2:Value}{W:World}(h:YW w cs gq y1 y2 W){g:Nat}(hg:w.heap.size+1+1≤g)(v:Value):YW w cs gq y1 y2 (W.setCell ⟨g,0,none⟩ v):=⟨h.b.setCell (p:=⟨g,0,none⟩) hg v⟩
def TwoM (own gh:List ByteArray)(g7 g8:Nat)(W:World):Prop:=∃m7 m8 k7 k8,W.cell? ⟨g7,0,none⟩=some (.map (some m7))∧W.cell? ⟨g8,0,none⟩=some (.map (some m8))∧SMap (setF own) k7 m7 W∧SMap (setF gh) k8 m8 W
def knS (own:List ByteArray)(qs:List QT)(gh:List ByteArray):Nat→ST→Bool
 | 0,_=>true
 | k+1,s=>knB (fun x=>hasW x own) qs gh k s
def kwB (n:Nat)(own:List ByteArray)(qs:List QT)(q:QT):Bool:=evs (knS own qs q.ghosts) n q.body && (vrA n q.pre).all (fun s=>hasW s own) && (vrA n q.post).all (fun s=>hasW s own || decide (s=resW))
theorem known_box (n:Nat)(cs ca cb:List Value)(own gh:List ByteArray)(pre post:AT)(body:List ST)(a0 a2 a5:Option Addr)(d0 c2 d5 gq:Nat)(y1 y2:Value)(qs:List QT)(w:World)(hl:cs.length=34)(eg:∀args w,(callFunc gq args).run Tryz.prog w= .ok (.enter gq args) w)
 (q2:cs[2]? =some (.slice a2 gh.length c2)) (q33:cs[33]? =some (.slice a5 body.length d5)) (p3:Part cs 3 ca) (p18:Part cs 18 cb) (h0:own.length≤1000) (h2:gh.length≤1000) (s0:Pak.Sits strSh (Pak.Lo w.heap.size) w a0 own) (s2:Pak.Sits strSh (Pak.Lo w.heap.size) w a2 gh)
 (rpre:(assnSh n).rel (Pak.Lo w.heap.size) w ca pre) (rpost:(assnSh n).rel (Pak.Lo w.heap.size) w cb post) (rbody:Pak.Sits (stmtSh n) (Pak.Lo w.heap.size) w a5 body) (hq:CalLaw gq y1 y2 qs w):
 Calls Tryz.prog 39 #[.agg cs.toArray,.slice a0 own.length d0,.func (.func gq) #[] #[y1,y2]] w (SoundEnd (evs (knS own qs gh) n body && (vrA n pre).all (fun s=>hasW s own) && (vrA n post).all (fun s=>hasW s own || decide (s=resW))) w):=by
 have X0:=Lib.hid (Bx.start w cs 49)
 have HLW:Hid (∀W,Bx w cs 49 W→Below w.heap.size w W):=Lib.hid fun W hW=>hW.low (Below.refl _ _)
 have Q2:=Lib.hid q2
 have HS0:=Lib.hid (fun W (hY:YW w cs gq y1 y2 W)=>let hW:=hY.bx;set_any a0 own.length d0 own W rfl (by omega) (s0.below (HLW.out W hW) (HLW.out W hW).size))
 have HS2:=Lib.hid (fun W (hY:YW w cs gq y1 y2 W)=>let hW:=hY.bx;set_any a2 gh.length c2 gh W rfl (by omega) (s2.below (HLW.out W hW) (HLW.out W hW).size))
 have X1:=Lib.hid (X0.out.alloc #[.func (.func gq) #[] #[y1,y2]] 55)
 have XD:Hid (YW w cs gq y1 y2 (((w.alloc (.cells cs.toArray 49)).alloc (.cells #[.func (.func gq) #[] #[y1,y2]] 55)).drew)):=Lib.hid ⟨(Below.refl _ _).drew⟩
 have XE:=Lib.hid (XD.out.alloc #[.map none] 53)
 have XF:=Lib.hid (XE.out.alloc #[.map none] 53)
 have LE:Hid (LB ((((w.alloc (.cells cs.toArray 49)).alloc (.cells #[.func (.func gq) #[] #[y1,y2]] 55)).drew).alloc (.cells #[.map none] 53)) (w.heap.size+1+1)):=Lib.hid (by have h:=LB.new (((w.alloc (.cells cs.toArray 49)).alloc (.cells #[.func (.func gq) #[] #[y1,y2]] 55)).drew);simpa using h)
 have LF1:Hid (LB (((((w.alloc (.cells cs.toArray 49)).alloc (.cells #[.func (.func gq) #[] #[y1,y2]] 55)).drew).alloc (.cells #[.map none] 53)).alloc (.cells #[.map none] 53)) (w.heap.size+1+1)):=Lib.hid LE.out.more
 have LF2:Hid (LB (((((w.alloc (.cells cs.toArray 49)).alloc (.cells #[.func (.func gq) #[] #[y1,y2]] 55)).drew).alloc (.cells #[.map none] 53)).alloc (.cells #[.map none] 53)) (w.heap.size+1+1+1)):=Lib.hid (by have h:=LB.new2 (((w.alloc (.cells cs.toArray 49)).alloc (.cells #[.func (.func gq) #[] #[y1,y2]] 55)).drew);simpa using h)
 have HAT:=Lib.hid (fun W (hW:YW w cs gq y1 y2 W)=>hW.bx.at (o:=2) Q2.out)
 have hk2:=HAT.out _ XD.out
 have k2:=X1.out.at (o:=2) Q2.out
 have Q33:=Lib.hid q33
 have P3:=Lib.hid (fun W (hb:Bx w cs 49 W)=>box_part p3 hb)
 have P18:=Lib.hid (fun W (hb:Bx w cs 49 W)=>box_part p18 hb)
 have LA:=Lib.hid (((assnSh n).len rpre).trans (assnSh_k _))
 have LC:=Lib.hid (((assnSh n).len rpost).trans (assnSh_k _))
 have RPRE:=Lib.hid rpre
 have RPOST:=Lib.hid rpost
 have RBODY:=Lib.hid rbody
 have HQ:=Lib.hid hq
 clear q2 s0 s2 h0 h2 q33 p3 p18 rpre rpost rbody hq hl
 generalize hz1:evs (knS own qs gh) n body=z1
 generalize hz2:(vrA n pre).all (fun s=>hasW s own)=z2
 generalize hz3:(vrA n post).all (fun s=>hasW s own || decide (s=resW))=z3
 have HZ1:=Lib.hid hz1
 have HZ2:=Lib.hid hz2
 have HZ3:=Lib.hid hz3
 clear hz1 hz2 hz3
 go_enter Tryz.func39,Tryz.ntmps39
 go_upto_region 1 with fail
 go_cut [7,8] (fun v7 v8 wx=>∃g7 g8:Nat,v7= .pointer (some ⟨g7,0,none⟩)∧v8= .pointer (some ⟨g8,0,none⟩)∧Hid (YW w cs gq y1 y2 wx)∧Hid (TwoM own gh g7 g8 wx))
 case first=>
  go_region_held3 (fun V=>V.cell? ⟨w.heap.size,2,none⟩=some (.slice a2 gh.length c2))
   (first | exact hk4 | exact hk3 | exact hk2 | exact keepS hk4 _ _ | exact keepA (keepS hk4 _ _) _ | exact keepS (keepS hk4 _ _) _ _ | exact keepA (keepA hk4 _) _ | go_keep)
   (first
     | (have TT:=T2;go_at_call 76;refine(HS2.out _ XD3.out).mono ?_;rintro r w4 ⟨m8,k8,rfl,hm8,hge8,hb8⟩;have XD4:=Lib.hid (XD3.out.step hb8);have hk4:=HAT.out _ XD4.out;have hn7:=Lib.hid ((hm7).up hb8);have hn8:=Lib.hid hm8;obtain⟨ga0,gb0,gc0⟩:=(T2.out).below hb8;obtain⟨ga1,gb1,gc1⟩:=(U2.out).below hb8;clear hm7 hm8 hb7 hb8 hk3)
     | (have TT:=T1;go_at_call 76;refine(HS2.out _ XD3.out).mono ?_;rintro r w4 ⟨m8,k8,rfl,hm8,hge8,hb8⟩;have XD4:=Lib.hid (XD3.out.step hb8);have hk4:=HAT.out _ XD4.out;have hn7:=Lib.hid ((hm7).up hb8);have hn8:=Lib.hid hm8;obtain⟨ga0,gb0,gc0⟩:=(T1.out).below hb8;clear hm7 hm8 hb7 hb8 hk3)
     | (have TT:=T1;go_at_call 76;refine(HS2.out _ XE3.out).mono ?_;rintro r w4 ⟨m8,k8,rfl,hm8,hge8,hb8⟩;have XD4:=Lib.hid (XE3.out.step hb8);have hk4:=HAT.out _ XD4.out;have hn7:=Lib.hid ((hm7.alloc _).up hb8);have hn8:=Lib.hid hm8;obtain⟨ga0,gb0,gc0⟩:=((T1.out).more).below hb8;obtain⟨ga1,gb1,gc1⟩:=((LB.new w3)).below hb8;have hn1:¬w3.heap.size=w.heap.size+1+1:=ne_gt T1.out.lt;have hn2:¬w.heap.size+1+1=w3.heap.size:=ne_lt T1.out.lt;clear hm7 hm8 hb7 hb8 hk3)
     | (have TT:=T0;go_at_call 76;refine(HS2.out _ XD3.out).mono ?_;rintro r w4 ⟨m8,k8,rfl,hm8,hge8,hb8⟩;have XD4:=Lib.hid (XD3.out.step hb8);have hk4:=HAT.out _ XD4.out;have hn7:=Lib.hid ((hm7).up hb8);have hn8:=Lib.hid hm8;clear hm7 hm8 hb7 hb8 hk3)
     | (have TT:=T0;go_at_call 76;refine(HS2.out _ XE3.out).mono ?_;rintro r w4 ⟨m8,k8,rfl,hm8,hge8,hb8⟩;have XD4:=Lib.hid (XE3.out.step hb8);have hk4:=HAT.out _ XD4.out;have hn7:=Lib.hid ((hm7.alloc _).up hb8);have hn8:=Lib.hid hm8;obtain⟨ga0,gb0,gc0⟩:=((LB.new w3)).below hb8;clear hm7 hm8 hb7 hb8 hk3)
     | (have TT:=T0;go_at_call 76;refine(HS2.out _ XF3.out).mono ?_;rintro r w4 ⟨m8,k8,rfl,hm8,hge8,hb8⟩;have XD4:=Lib.hid (XF3.out.step hb8);have hk4:=HAT.out _ XD4.out;have hn7:=Lib.hid (((hm7.alloc _).alloc _).up hb8);have hn8:=Lib.hid hm8;obtain⟨ga0,gb0,gc0⟩:=((LB.new w3).more).below hb8;obtain⟨ga1,gb1,gc1⟩:=((LB.new2 w3)).below hb8;clear hm7 hm8 hb7 hb8 hk3)
     | (go_at_call 76;refine(HS0.out _ XF.out).mono ?_;rintro r w3 ⟨m7,k7,rfl,hm7,hge7,hb7⟩;have XD3:=Lib.hid (XF.out.step hb7);have XE3:=Lib.hid (XD3.out.alloc #[.map none] 53);have XF3:=Lib.hid (XE3.out.alloc #[.map none] 53);have hk3:=HAT.out _ XD3.out;have hz3:=Lib.hid XD3.out.sz;have T2:=Lib.hid (LF1.out.below hb7);have U2:=Lib.hid (LF2.out.below hb7))
     | (go_at_call 76;refine(HS0.out _ XE.out).mono ?_;rintro r w3 ⟨m7,k7,rfl,hm7,hge7,hb7⟩;have XD3:=Lib.hid (XE.out.step hb7);have XE3:=Lib.hid (XD3.out.alloc #[.map none] 53);have XF3:=Lib.hid (XE3.out.alloc #[.map none] 53);have hk3:=HAT.out _ XD3.out;have hz3:=Lib.hid XD3.out.sz;have T1:=Lib.hid (LE.out.below hb7))
     | (go_at_call 76;refine(HS0.out _ XD.out).mono ?_;rintro r w3 ⟨m7,k7,rfl,hm7,hge7,hb7⟩;have XD3:=Lib.hid (XD.out.step hb7);have XE3:=Lib.hid (XD3.out.alloc #[.map none] 53);have XF3:=Lib.hid (XE3.out.alloc #[.map none] 53);have hk3:=HAT.out _ XD3.out;have hz3:=Lib.hid XD3.out.sz;have T0:=Lib.hid (Below.refl w3.heap.size w3)))
  all_goals (
   go_wp2_with fail
   go_meet
   case rel=>exact⟨_,_,rfl,rfl,(by repeat (first | exact XD4.out | refine YW.alloc ?_ _ _ | refine YW.set ?_ (by have:=hz3.out;omega) _)),⟨m7,m8,k7,k8,(by first | (simp[go_sem,gb0,gb1,ga0,ga1,hn1,hn2];done) | (simp[go_sem,gb0,gb1,ga0,ga1];done) | (simp[go_sem,gb0,ga0];done) | (simp[go_sem];done)),(by first | (simp[go_sem,gb0,gb1,ga0,ga1,hn1,hn2];done) | (simp[go_sem,gb0,gb1,ga0,ga1];done) | (simp[go_sem,gb0,ga0];done) | (simp[go_sem];done)),(by repeat (first | exact hn7.out | refine SMap.alloc ?_ _ | refine SMap.set ?_ (SMap.ne hn7.out gb0) _ | refine SMap.set ?_ (SMap.ne hn7.out gb1) _)),(by repeat (first | exact hn8.out | refine SMap.alloc ?_ _ | refine SMap.set ?_ (SMap.ne hn8.out gb0) _ | refine SMap.set ?_ (SMap.ne hn8.out gb1) _))⟩⟩)
 case rest=>
  obtain⟨g7,g8,rfl,rfl,hyw,htw⟩:=hcut
  obtain⟨wo,rfl⟩:∃wo:World,wo=wc:=⟨_,rfl⟩
  have YY:=Lib.hid hyw.out
  obtain⟨m7,m8,k7,k8,hc7,hc8,hs7,hs8⟩:=htw.out
  clear HS0 HS2 XD XE XF LE LF1 LF2 HAT hk2 k2 X1 hyw htw
  have HA:Hid (Below wo.heap.size wo (wo.alloc (.cells #[.func (.func 77) #[] #[.pointer (some ⟨g7,0,none⟩)]] 91))):=Lib.hid box_low
  have YD:=Lib.hid (YY.out.step HA.out)
  have BD:=Lib.hid (HLW.out _ YD.out.bx)
  have e5:(wo.alloc (.cells #[.func (.func 77) #[] #[.pointer (some ⟨g7,0,none⟩)]] 91)).cell? ⟨w.heap.size+1,0,none⟩=some (.func (.func gq) #[] #[y1,y2]):=(YD.out.b.cell (p:=⟨w.heap.size+1,0,none⟩) (show w.heap.size+1<w.heap.size+1+1 by omega)).trans (by simp[go_sem])
  have e9:(wo.alloc (.cells #[.func (.func 77) #[] #[.pointer (some ⟨g7,0,none⟩)]] 91)).cell? ⟨wo.heap.size,0,none⟩=some (.func (.func 77) #[] #[.pointer (some ⟨g7,0,none⟩)]):=by simp[go_sem]
  have e8:=(HA.out.cell (p:=⟨g8,0,none⟩) (block_lt_of_cell hc8)).trans hc8
  have e7:=(HA.out.cell (p:=⟨g7,0,none⟩) (block_lt_of_cell hc7)).trans hc7
  have HM:=Lib.hid (known1_any (setF own) k7 m7 g7 (fun s=>hasW s own) (fun s=>by unfold setF;cases hasW s own<;>rfl) _ e7 (hs7.up HA.out))
  have HM3:=Lib.hid (known3_any 77 wo.heap.size (.pointer (some ⟨g7,0,none⟩)) (fun s=>hasW s own) (fun args w=>by kernel_rfl) _ e9 HM.out)
  have FE:=Lib.hid (every_any3 78 (.pointer (some ⟨w.heap.size+1,0,none⟩)) (.pointer (some ⟨wo.heap.size,0,none⟩)) (.pointer (some ⟨g8,0,none⟩)) (knS own qs gh) (fun args w=>by kernel_rfl) n body a5 d5 _ (fun k s cs V hV hr=>by
   cases k with
   | zero=>exact hr.elim
   | succ k=>exact known2_any k s cs (w.heap.size+1) g8 wo.heap.size gq 77 k8 m8 y1 y2 (.pointer (some ⟨g7,0,none⟩)) qs (fun s=>hasW s own) gh V eg (fun args w=>by kernel_rfl) ((hV.cell (p:=⟨w.heap.size+1,0,none⟩) (block_lt_of_cell e5)).trans e5) ((hV.cell (p:=⟨wo.heap.size,0,none⟩) (block_lt_of_cell e9)).trans e9) ((hV.cell (p:=⟨g8,0,none⟩) (block_lt_of_cell e8)).trans e8) ((hs8.up HA.out).up hV) (HQ.out.up (BD.out.trans (hV.mono BD.out.size))) (HM.out.up hV) hr V (Below.refl _ _)) (RBODY.out.below BD.out BD.out.size))
  have FP:=Lib.hid (inAssn_any 77 (.pointer (some ⟨g7,0,none⟩)) (fun s=>hasW s own) (fun args w=>by kernel_rfl) n pre ca _ HM.out (rel_low RPRE.out BD.out))
  have FQ:=Lib.hid (inAssn_any 82 (.pointer (some ⟨wo.heap.size,0,none⟩)) (fun s=>hasW s own || decide (s=resW)) (fun args w=>by kernel_rfl) n post cb _ HM3.out (rel_low RPOST.out BD.out))
  have E9:=Lib.hid e9
  have k33:=YD.out.bx.at (o:=33) Q33.out
  have G1:=Lib.hid (FE.out.at (Below.refl _ _))
  have st:=fun a m W=>run_store Tryz.prog W a (.func (.func 77) #[] #[.pointer (some ⟨g7,0,none⟩)]) m rfl
  clear e5 e8 e7 hc7 hc8 hs7 hs8 HM HM3 HQ FE
  rw[HZ1.out]at G1
  rw[HZ2.out]at FP
  rw[HZ3.out]at FQ
  clear HZ1 HZ2 HZ3
  go_wp2_with fail
  refine G1.out.mono ?_
  rintro r w2 ⟨rfl,hb⟩
  have H2:=Lib.hid hb
  have Y2:=Lib.hid (YD.out.step hb)
  have HB2:=Lib.hid (HLW.out _ Y2.out.bx)
  have k9:=(H2.out.cell (p:=⟨wo.heap.size,0,none⟩) (block_lt_of_cell E9.out)).trans E9.out
  clear hb G1 k33 e9
  cases z1 with
  | false=>
    go_wp2_with fail
    go_ret
    exact⟨by simp,HB2.out⟩
  | true=>
  have G2:=Lib.hid (FP.out.at H2.out)
  go_wp2_with (first | go_skip | (refine wpList_load_w (by kernel_rfl) 44 _ rfl ⟨w.heap.size,3,none⟩ rfl ca _ (P3.out _ Y2.out.bx) Tryz.underlying44 rfl (by rw[LA.out];kernel_rfl) ?_))
  refine G2.out.mono ?_
  rintro r w3 ⟨rfl,hb⟩
  have H3:=Lib.hid (H2.out.trans (hb.mono H2.out.size))
  have Y3:=Lib.hid (Y2.out.step hb)
  have HB3:=Lib.hid (HLW.out _ Y3.out.bx)
  clear hb G2 k9
  cases z2 with
  | false=>
    go_wp2_with fail
    go_ret
    exact⟨by simp,HB3.out⟩
  | true=>
  have G3:=Lib.hid (FQ.out.at H3.out)
  go_wp2_with (first | go_skip | (refine wpList_load_w (by kernel_rfl) 44 _ rfl ⟨w.heap.size,18,none⟩ rfl cb _ (P18.out _ Y3.out.bx) Tryz.underlying44 rfl (by rw[LC.out];kernel_rfl) ?_))
  refine G3.out.mono ?_
  rintro r w4 ⟨rfl,hb⟩
  have HB4:=Lib.hid (HLW.out _ (Y3.out.step hb).bx)
  clear hb G3
  go_wp2_with fail
  go_ret
  exact⟨by simp,HB4.out⟩
theorem known_any (n:Nat)(q:QT)(cs:List Value)(own:List ByteArray)(a0:Option Addr)(d0 gq:Nat)(y1 y2:Value)(qs:List QT)(w:World)(eg:∀args w,(callFunc gq args).run Tryz.prog w= .ok (.enter gq args) w)(h0:own.length≤1000)(h2:q.ghosts.length≤1000)(hr:(procSh n).rel (Pak.Lo w.heap.size) w cs q)(s0:Pak.Sits strSh (Pak.Lo w.heap.size) w a0 own)(hq:CalLaw gq y1 y2 qs w):
 BoolAll 39 #[.agg cs.toArray,.slice a0 own.length d0,.func (.func gq) #[] #[y1,y2]] (kwB n own qs q) w:=fun W hW=>by
 obtain⟨ca,cb,a1,a2,a3,c1,c2,c3,H⟩:=proc_is (rel_low hr hW)
 exact known_box n cs ca cb own q.ghosts q.pre q.post q.body a0 a2 a3 d0 c2 c3 gq y1 y2 qs W H.len eg H.ghosts H.body H.pre H.post h0 h2 (s0.below hW hW.size) H.rghosts H.rpre H.rpost H.rbody (hq.up hW)
end
section
open Go.RowKit
theorem varsA_box (n:Nat)(es:List AT)(a:Option Addr)(m cap:Nat)(w:World)(hm:es.length=m)(hpt:ptAs (n+1) es≤1000)(hs:Pak.Sits (assnSh (n+1)) (Pak.Lo w.heap.size) w a es)
 (hk:∀(x:AT) (u:Option Addr) (c:Nat) (W:World),x∈es→Below w.heap.size w W→Pak.Sits (assnSh n) (Pak.Lo W.heap.size) W u x.ks→Calls Tryz.prog 21 #[.slice u x.ks.length c] W (VrEnd (vrAs n x.ks) W)):
 Calls Tryz.prog 21 #[.slice a m cap] w (VrEnd (vrAs (n+1) es) w):=by
 have HS:=Lib.hid hs
 have HM:=Lib.hid hm
 have HP:=Lib.hid hpt
 have hmm:m≤9223372036854775807:=by rw[←hm];exact hs.1
 have HK:=Lib.hid hk
 clear hs hm hk hpt
 go_enter Tryz.func21,Tryz.ntmps21
 go_wp2_with fail
 go_loopw [3,4] (fun v i wr=>∃j:Nat,i= .int .i64 j∧j≤m∧Hid (StrRow w.heap.size (vrAs (n+1) (es.take j)) v wr)∧Hid (Below w.heap.size w wr)) (fun _ i _=>m - (intOf i).toNat)
 case atStart=>exact⟨0,rfl,Nat.zero_le _,StrRow.nil _ _,Below.refl _ _⟩
 case round=>
  obtain⟨j,rfl,hj,hrw,hbr⟩:=hrel
  obtain⟨wo,rfl⟩:∃wo:World,wo=wr:=⟨_,rfl⟩
  by_cases hlt:j<m
  ·have hlx:j<es.length:=by rw[HM.out];exact hlt
   have hji:(j:Int)<(m:Int):=by omega
   obtain⟨b,off,cs,rfl,hbl,hc,hr⟩:=HS.out.2 j hlx
   obtain⟨k,a1,d1,a2,d2,a3,d3,a4,d4,a5,d5,hnk,rfl,hnn,hrc,hre,hrv,hks⟩:=assn_form hr
   rw[←hnk]at hrc hre hrv hks
   clear hnk hr
   rw[assnSh_k]at hc
   have HPT:Hid (ptAs (n+1) (es.take j)+1+ptC n es[j].c+ptE n es[j].e+ptE n es[j].v+ptAs n es[j].ks≤1000):=Lib.hid (by have h1:=ptAs_take (n:=n+1) hlx;have h2:=ptA_succ n es[j];have h3:=HP.out;omega)
   have HSN:Hid (vrAs (n+1) (es.take (j+1))=((vrAs (n+1) (es.take j) ++ vrCs n [es[j].c]) ++ vrEs n [es[j].e,es[j].v]) ++ vrAs n es[j].ks):=Lib.hid (by rw[vrAs_snoc hlx,vrA_succ];simp only[List.append_assoc])
   have HL0:Hid ((vrAs (n+1) (es.take j)).length+(vrCs n [es[j].c]).length+(vrEs n [es[j].e,es[j].v]).length+(vrAs n es[j].ks).length≤1000):=Lib.hid (by have h1:=vrAs_len (n+1) (es.take j);have h2:=vrCs_len n [es[j].c];have h3:=vrEs_len n [es[j].e,es[j].v];have h4:=vrAs_len n es[j].ks;have:=HPT.out;rw[ptCs_one]at h2;rw[ptEs_two]at h3;omega)
   have R0:=Lib.hid hrw.out
   have B0:=Lib.hid hbr.out
   have HKJ:=Lib.hid (fun W (hW:Below w.heap.size w W)=>HK.out es[j] a5 d5 W (List.getElem_mem hlx) hW (hks.below hW hW.size))
   generalize es[j]=y at*
   generalize hfs:y.field=fs at hc
   have HQ:Hid (∀W,Below w.heap.size w W→∀i v,([.int .i64 y.kind,.int .i64 y.c.kind,.slice a1 y.c.es.length d1,.slice a2 y.c.ks.length d2,.int .i64 y.e.kind,.int .i64 y.e.n,.string y.e.name,.slice a3 y.e.ks.length d3,.int .i64 y.v.kind,.int .i64 y.v.n,.string y.v.name,.slice a4 y.v.ks.length d4,.string fs,.int .i64 y.n,.slice a5 y.ks.length d5]:List Value)[i]? =some v→W.cell? ⟨b,off+j*15+i,none⟩=some v):=Lib.hid fun W hW i v hv=>(hW.cell (p:=⟨b,_,none⟩) hbl).trans (hc i v hv)
   have HC1:=Lib.hid (fun W (hW:Below w.heap.size w W)=>varsC_any n [y.c] (some ⟨W.heap.size,0,none⟩) 1 (W.alloc (.cells #[.int .i64 y.c.kind,.slice a1 y.c.es.length d1,.slice a2 y.c.ks.length d2] 41)) (by rw[ptCs_one];have:=HPT.out;omega) (sits_blk (heap_alloc_new W _) (by simp) (rel_low hrc (hW.alloc hW.size _))))
   have HC2:=Lib.hid (fun W (hW:Below w.heap.size w W)=>varsE_any n [y.e,y.v] (some ⟨W.heap.size,0,none⟩) 2 (W.alloc (.cells #[.int .i64 y.e.kind,.int .i64 y.e.n,.string y.e.name,.slice a3 y.e.ks.length d3,.int .i64 y.v.kind,.int .i64 y.v.n,.string y.v.name,.slice a4 y.v.ks.length d4] 37)) (by rw[ptEs_two];have:=HPT.out;omega) (sits_two2 (cs:=[.int .i64 y.e.kind,.int .i64 y.e.n,.string y.e.name,.slice a3 y.e.ks.length d3]) (ds:=[.int .i64 y.v.kind,.int .i64 y.v.n,.string y.v.name,.slice a4 y.v.ks.length d4]) (heap_alloc_new W _) (by simp) (by rw[exprSh_k];rfl) (rel_low hre (hW.alloc hW.size _)) (rel_low hrv (hW.alloc hW.size _))))
   clear hc hrw hbr hks hrc hre hrv hnn HPT
   have c1:=HQ.out _ B0.out 1 _ rfl
   have c2:=HQ.out _ B0.out 2 _ rfl
   have c3:=HQ.out _ B0.out 3 _ rfl
   have F:=Lib.hid (HC1.out wo B0.out)
   have BA:Hid (Below w.heap.size w (wo.alloc (.cells #[.int .i64 y.c.kind,.slice a1 y.c.es.length d1,.slice a2 y.c.ks.length d2] 41))):=Lib.hid (B0.out.alloc B0.out.size _)
   have RA:Hid (StrRow w.heap.size (vrAs (n+1) (es.take j)) u3 (wo.alloc (.cells #[.int .i64 y.c.kind,.slice a1 y.c.es.length d1,.slice a2 y.c.ks.length d2] 41))):=Lib.hid (R0.out.below box_low)
   go_wp2_with fail
   refine F.out.mono ?_
   rintro r w3 ⟨y3,rfl,hrow,hb⟩
   have B3:=Lib.hid (BA.out.trans (hb.mono BA.out.size))
   obtain⟨v4,w4,hrun,hrow4,hb4⟩:=run_cat_str (w:=w3) w.heap.size (vrAs (n+1) (es.take j)) (vrCs n [y.c]) _ y3 (RA.out.below hb) B3.out.size (hrow.1.sits (by have:=HL0.out;omega)) hrow.2 (by have:=HL0.out;omega)
   have R4:=Lib.hid hrow4
   have B4:=Lib.hid (B3.out.trans hb4)
   clear hrow hb hrow4 hb4 F HC1 R0 RA B0 BA c1 c2 c3
   have c4:=HQ.out _ B4.out 4 _ rfl
   have c5:=HQ.out _ B4.out 5 _ rfl
   have c6:=HQ.out _ B4.out 6 _ rfl
   have c7:=HQ.out _ B4.out 7 _ rfl
   have c8:=HQ.out _ B4.out 8 _ rfl
   have c9:=HQ.out _ B4.out 9 _ rfl
   have c10:=HQ.out _ B4.out 10 _ rfl
   have c11:=HQ.out _ B4.out 11 _ rfl
   go_wp2_with (at_builtin;refine Lib.wpList_append_run _ rfl _ _ _ _ rfl _ _ rfl rfl _ _ (hrun _) ?_)
   have HC2D:=Lib.hid (HC2.out w4.drew B4.out.drew)
   have B4D:Hid (Below w.heap.size w (w4.drew.alloc (.cells #[.int .i64 y.e.kind,.int .i64 y.e.n,.string y.e.name,.slice a3 y.e.ks.length d3,.int .i64 y.v.kind,.int .i64 y.v.n,.string y.v.name,.slice a4 y.v.ks.length d4] 37))):=Lib.hid (B4.out.drew.alloc B4.out.drew.size _)
   have R4D:Hid (StrRow w.heap.size (vrAs (n+1) (es.take j) ++ vrCs n [y.c]) v4 (w4.drew.alloc (.cells #[.int .i64 y.e.kind,.int .i64 y.e.n,.string y.e.name,.slice a3 y.e.ks.length d3,.int .i64 y.v.kind,.int .i64 y.v.n,.string y.v.name,.slice a4 y.v.ks.length d4] 37))):=Lib.hid (R4.out.below ((Below.refl _ w4).drew.alloc (Nat.le_refl _) _))
   have HHC:Hid (∀y5 w5,StrRow (w4.drew.alloc (.cells #[.int .i64 y.e.kind,.int .i64 y.e.n,.string y.e.name,.slice a3 y.e.ks.length d3,.int .i64 y.v.kind,.int .i64 y.v.n,.string y.v.name,.slice a4 y.v.ks.length d4] 37)).heap.size (vrEs n [y.e,y.v]) y5 w5→Below (w4.drew.alloc (.cells #[.int .i64 y.e.kind,.int .i64 y.e.n,.string y.e.name,.slice a3 y.e.ks.length d3,.int .i64 y.v.kind,.int .i64 y.v.n,.string y.v.name,.slice a4 y.v.ks.length d4] 37)).heap.size (w4.drew.alloc (.cells #[.int .i64 y.e.kind,.int .i64 y.e.n,.string y.e.name,.slice a3 y.e.ks.length d3,.int .i64 y.v.kind,.int .i64 y.v.n,.string y.v.name,.slice a4 y.v.ks.length d4] 37)) w5→
    ∃v6 w6,(∀ty,(Builtin.append_ #[38,38] ty #[v4,y5]).run Tryz.prog w5= .ok v6 w6)∧StrRow w.heap.size ((vrAs (n+1) (es.take j) ++ vrCs n [y.c]) ++ vrEs n [y.e,y.v]) v6 w6∧Below w.heap.size w w6):=Lib.hid fun y5 w5 hrow hb=>by
    have B5:=B4D.out.trans (hb.mono B4D.out.size)
    obtain⟨v6,w6,hrun,hrow6,hb6⟩:=run_cat_str (w:=w5) w.heap.size (vrAs (n+1) (es.take j) ++ vrCs n [y.c]) (vrEs n [y.e,y.v]) v4 y5 (R4D.out.below hb) B5.size (hrow.1.sits (by have:=HL0.out;omega)) hrow.2 (by rw[List.length_append];have:=HL0.out;omega)
    exact⟨v6,w6,hrun,hrow6,B5.trans hb6⟩
   clear HC2 R4 R4D B4D
   go_region_law (first
    | (refine step_append_runN (by rfl) _ _ _ (by rfl) _ _ v6 w6 (by rfl) (by rfl) hrun ?_)
    | (go_simp;go_at_call 51;refine HC2D.out.mono ?_;rintro r w5 ⟨y5,rfl,hrow,hb⟩;obtain⟨v6,w6,hrun,hrow6,hb6⟩:=HHC.out y5 w5 hrow hb))
   all_goals (
    have B6:=Lib.hid hb6
    have R6:=Lib.hid hrow6
    have c14:=HQ.out _ B6.out 14 _ rfl
    have F3:=Lib.hid (HKJ.out w6 B6.out)
    clear hrow6 hb6 hrun HHC HC2D c4 c5 c6 c7 c8 c9 c10 c11 hrow hb
    go_wp2_with fail
    refine F3.out.mono ?_
    rintro r w7 ⟨y7,rfl,hrow,hb⟩
    have B7:=Lib.hid (B6.out.trans (hb.mono B6.out.size))
    obtain⟨v8,w8,hrun,hrow8,hb8⟩:=run_cat_str (w:=w7) w.heap.size ((vrAs (n+1) (es.take j) ++ vrCs n [y.c]) ++ vrEs n [y.e,y.v]) (vrAs n y.ks) _ y7 (R6.out.below hb) B7.out.size (hrow.1.sits (by have:=HL0.out;omega)) hrow.2 (by rw[List.length_append,List.length_append];have:=HL0.out;omega)
    have HNX:Hid (StrRow w.heap.size (vrAs (n+1) (es.take (j+1))) v8 w8):=Lib.hid (by rw[HSN.out];exact hrow8)
    have B8:=Lib.hid (B7.out.trans hb8)
    clear hrow hb hrow8 hb8 F3 R6 c14
    go_wp2_with (at_builtin;refine Lib.wpList_append_run _ rfl _ _ _ _ rfl _ _ rfl rfl _ _ (hrun _) ?_)
    clear hrun
    go_roundw
    case rel=>exact⟨j+1,by go_num,by omega,HNX,B8⟩
    case measure=>simp[intOf];omega)
  ·obtain rfl:j=m:=by omega
   have hji:¬(j:Int)<(j:Int):=by omega
   have HR:Hid (StrRow w.heap.size (vrAs (n+1) es) u3 wo):=Lib.hid (by have h:=hrw.out;rwa [←HM.out,List.take_length]at h)
   have HB:=Lib.hid hbr.out
   clear hrw hbr
   go_wp2_with fail
   go_ret
   exact⟨_,rfl,HR.out,HB.out⟩
theorem varsA_any:∀(n:Nat) (es:List AT) (a:Option Addr) (cap:Nat) (w:World),ptAs n es≤1000→Pak.Sits (assnSh n) (Pak.Lo w.heap.size) w a es→Calls Tryz.prog 21 #[.slice a es.length cap] w (VrEnd (vrAs n es) w)
 | 0,es,a,cap,w,hp,hs=>by
   have he:es=[]:=by
    cases es with
    | nil=>rfl
    | cons x xs=>
      obtain⟨_,_,_,_,_,_,hr⟩:=hs.2 0 (by simp)
      exact hr.elim
   subst he
   exact varsA_box 0 [] a 0 cap w rfl (by simp[ptAs]) (Pak.Sits.nil _ _ _ _) fun x u c W hx _ _=>absurd hx (by simp)
 | n+1,es,a,cap,w,hp,hs=>
   varsA_box n es a es.length cap w rfl hp hs fun x u c W hx hW hsx=>varsA_any n x.ks u c W (by
    obtain⟨q,hq,rfl⟩:=List.getElem_of_mem hx
    have h1:=ptAs_take (n:=n+1) hq
    have h2:=ptA_succ n es[q]
    omega) hsx
end
section
open Go.RowKit
def adS (s:ByteArray)(o:List ByteArray):List ByteArray:=if(s.toList.isEmpty || hasW s o)=true then o else o ++ [s]
def asg:Nat→ST→List ByteArray→List ByteArray
 | 0,_,o=>o
 | n+1,s,o=>s.els.foldl (fun o t=>asg n t o) (s.body.foldl (fun o t=>asg n t o) (adS s.p.name o))
def asgs (n:Nat)(l:List ST)(o:List ByteArray):List ByteArray:=l.foldl (fun o t=>asg n t o) o
theorem asg_succ (n:Nat)(s:ST)(o:List ByteArray):asg (n+1) s o=asgs n s.els (asgs n s.body (adS s.p.name o)):=rfl
theorem asgs_snoc {n:Nat}{l:List ST}{o:List ByteArray}{j:Nat}(h:j<l.length):asgs n (l.take (j+1)) o=asg n l[j] (asgs n (l.take j) o):=by
 unfold asgs
 rw[List.take_succ_eq_append_getElem h,List.foldl_append]
 rfl
theorem adS_len (s:ByteArray)(o:List ByteArray):(adS s o).length≤o.length+1:=by
 unfold adS
 split
 ·omega
 ·simp
theorem asg_len:∀(n:Nat) (s:ST) (o:List ByteArray),(asg n s o).length≤o.length+ptT n s
 | 0,_,_=>Nat.le_add_right _ _
 | n+1,s,o=>by
   have key:∀(l:List ST) (o:List ByteArray),(l.foldl (fun o t=>asg n t o) o).length≤o.length+(l.map (ptT n)).sum:=fun l=>by
    induction l with
    | nil=>intro o;exact Nat.le_add_right _ _
    | cons x r ih=>intro o;rw[List.foldl_cons,List.map_cons,List.sum_cons];have h1:=ih (asg n x o);have h2:=asg_len n x o;omega
   have h1:=key s.els (s.body.foldl (fun o t=>asg n t o) (adS s.p.name o))
   have h2:=key s.body (adS s.p.name o)
   have h3:=adS_len s.p.name o
   unfold asg ptT
   omega
theorem asgs_len (n:Nat):∀(l:List ST) (o:List ByteArray),(asgs n l o).length≤o.length+ptTs n l
 | [],o=>Nat.le_add_right _ _
 | x :: r,o=>by
   have h1:=asg_len n x o
   have h2:=asgs_len n r (asg n x o)
   unfold asgs ptTs at*
   rw[List.foldl_cons,List.map_cons,List.sum_cons]
   omega
theorem ptTs_take {n:Nat}{l:List ST}{j:Nat}(h:j<l.length):ptTs n (l.take j)+ptT n l[j]≤ptTs n l:=by
 have h1:=ptTs_snoc (n:=n) h
 have h2:ptTs n (l.take (j+1))+ptTs n (l.drop (j+1))=ptTs n l:=by
  unfold ptTs
  rw[←List.sum_append,←List.map_append,List.take_append_drop]
 omega
def AsEnd (B:Nat)(xs:List ByteArray)(w:World)(r:Ending)(w':World):Prop:=∃v,r= .returned v∧StrRow B xs v w'∧Below B w w'
theorem assigned_box (n B:Nat)(es:List ST)(o:List ByteArray)(ov:Value)(a:Option Addr)(m cap:Nat)(w:World)(hm:es.length=m)(hB:B≤w.heap.size)(ho:StrRow B o ov w)(hpt:o.length+ptTs (n+1) es≤1000)(hs:Pak.Sits (stmtSh (n+1)) (Pak.Lo B) w a es)
 (hk:∀(x:ST) (t:List ST) (u:Option Addr) (c:Nat) (W:World) (xs:List ByteArray) (v:Value),x∈es→t=x.body∨t=x.els→Below B w W→StrRow B xs v W→xs.length+ptTs n t≤1000→B≤W.heap.size→Pak.Sits (stmtSh n) (Pak.Lo B) W u t→Calls Tryz.prog 20 #[.slice u t.length c,v] W (AsEnd B (asgs n t xs) W)):
 Calls Tryz.prog 20 #[.slice a m cap,ov] w (AsEnd B (asgs (n+1) es o) w):=by
 have HS:=Lib.hid hs
 have HM:=Lib.hid hm
 have HP:=Lib.hid hpt
 have HB0:=Lib.hid hB
 have HO:=Lib.hid ho
 have hmm:m≤9223372036854775807:=by rw[←hm];exact hs.1
 have HK:=Lib.hid hk
 clear hs hm hk hpt hB ho
 go_enter Tryz.func20,Tryz.ntmps20
 go_wp2_with fail
 go_loopw [1,5] (fun v i wr=>∃j:Nat,i= .int .i64 j∧j≤m∧Hid (StrRow B (asgs (n+1) (es.take j) o) v wr)∧Hid (Below B w wr)) (fun _ i _=>m - (intOf i).toNat)
 case atStart=>exact⟨0,rfl,Nat.zero_le _,HO,Below.refl _ _⟩
 case round=>
  obtain⟨j,rfl,hj,hrw,hbr⟩:=hrel
  obtain⟨wo,rfl⟩:∃wo:World,wo=wr:=⟨_,rfl⟩
  by_cases hlt:j<m
  ·have hlx:j<es.length:=by rw[HM.out];exact hlt
   have hji:(j:Int)<(m:Int):=by omega
   obtain⟨b,off,cs,rfl,hbl,hc,hr⟩:=HS.out.2 j hlx
   rw[stmtSh_k]at hc
   have HUP:=Lib.hid (fun W (hW:Below B w W) o v e=>(hW.cell (p:=⟨b,off+j*35+o,none⟩) hbl).trans (hc o v e))
   obtain⟨ce,cv,cc,ca,u1,u2,u3',u4,u5,c1,c2,c3,c4,c5,H⟩:=stmt_is hr
   have HC1:=Lib.hid H.name
   have HC33:=Lib.hid H.body
   have HC34:=Lib.hid H.els
   have hnm:es[j].p.name.size≤maxLen:=H.nums.2.1
   have hsb:=H.rbody
   have hse:=H.rels
   have HLN:Hid (((asgs (n+1) (es.take j) o)).length+1+ptTs n es[j].body+ptTs n es[j].els≤1000):=Lib.hid (by
    have h1:=asgs_len (n+1) (es.take j) o
    have h2:=ptTs_take (n:=n+1) hlx
    have h3:=ptT_succ n es[j]
    have h4:=HP.out
    omega)
   have HSN:Hid (asgs (n+1) (es.take (j+1)) o=asgs n es[j].els (asgs n es[j].body (adS es[j].p.name (asgs (n+1) (es.take j) o)))):=Lib.hid (by rw[asgs_snoc hlx,asg_succ])
   obtain⟨va,vc,hv,hsx⟩:=hrw.out.1.sits (by have:=HLN.out;omega)
   subst hv
   have R0:=Lib.hid hrw.out
   have B0:=Lib.hid hbr.out
   have HSX:=Lib.hid hsx
   have g1:=HUP.out wo B0.out 1 _ HC1.out
   clear hc hr H hrw hbr hsx
   by_cases hem:es[j].p.name.toList=[]
   ·have e1:es[j].p.name.toList.isEmpty=true:=by simp[hem]
    have HAD:Hid (adS es[j].p.name (asgs (n+1) (es.take j) o)=(asgs (n+1) (es.take j) o)):=Lib.hid (by unfold adS;rw[e1];rfl)
    have BW:=B0
    have RW:=R0
    have HLB:Hid (((asgs (n+1) (es.take j) o)).length+ptTs n es[j].body+ptTs n es[j].els≤1000):=Lib.hid (by have:=HLN.out;omega)
    clear HSX R0
    have F1:=Lib.hid (HK.out es[j] es[j].body u4 c4 wo (asgs (n+1) (es.take j) o) _ (List.getElem_mem hlx) (.inl rfl) BW.out RW.out (by have:=HLB.out;omega) (Nat.le_trans HB0.out BW.out.size) (hsb.keep (fun b h=>h) (fun b o h=>BW.out.cell (p:=⟨b,o,none⟩) h)))
    have g33:=HUP.out wo BW.out 33 _ HC33.out
    go_wp2_with fail
    refine F1.out.mono ?_
    rintro r w3 ⟨v3,rfl,h3,hb3⟩
    have B3:=Lib.hid (BW.out.trans hb3)
    have R3:=Lib.hid h3
    have F2:=Lib.hid (HK.out es[j] es[j].els u5 c5 w3 (asgs n es[j].body (asgs (n+1) (es.take j) o)) v3 (List.getElem_mem hlx) (.inr rfl) B3.out R3.out (by have h1:=asgs_len n es[j].body (asgs (n+1) (es.take j) o);have:=HLB.out;omega) (Nat.le_trans HB0.out B3.out.size) (hse.keep (fun b h=>h) (fun b o h=>B3.out.cell (p:=⟨b,o,none⟩) h)))
    have g34:=HUP.out w3 B3.out 34 _ HC34.out
    clear h3 hb3 F1 g33 hsb hse
    go_wp2_with fail
    refine F2.out.mono ?_
    rintro r w4 ⟨v4,rfl,h4,hb4⟩
    have B4:=Lib.hid (B3.out.trans hb4)
    have R4:Hid (StrRow B (asgs (n+1) (es.take (j+1)) o) v4 w4):=Lib.hid (by rw[HSN.out,HAD.out];exact h4)
    clear h4 hb4 F2 g34
    go_wp2_with fail
    go_roundw
    case rel=>exact⟨j+1,by go_num,by omega,R4,B4⟩
    case measure=>simp[intOf];omega
   ·have e1:es[j].p.name.toList.isEmpty=false:=by simp[hem]
    have F:=Lib.hid (has_any16 es[j].p.name va _ vc (asgs (n+1) (es.take j) o) wo rfl HSX.out)
    have HAD0:Hid (adS es[j].p.name (asgs (n+1) (es.take j) o)=if hasW es[j].p.name (asgs (n+1) (es.take j) o)=true then(asgs (n+1) (es.take j) o) else(asgs (n+1) (es.take j) o) ++ [es[j].p.name]):=Lib.hid (by unfold adS;rw[e1,Bool.false_or])
    generalize hz:hasW es[j].p.name (asgs (n+1) (es.take j) o)=z at F HAD0
    clear hz
    go_wp2_with fail
    refine F.out.mono ?_
    rintro r w2 ⟨rfl,hb⟩
    have B2:=Lib.hid (B0.out.trans (hb.mono (Nat.le_trans HB0.out B0.out.size)))
    have R2:=Lib.hid (R0.out.below hb)
    clear hb F R0 B0 HSX g1
    cases z with
    | true=>
      have HAD:Hid (adS es[j].p.name (asgs (n+1) (es.take j) o)=(asgs (n+1) (es.take j) o)):=Lib.hid HAD0.out
      have BW:=B2
      have RW:=R2
      have HLB:Hid (((asgs (n+1) (es.take j) o)).length+ptTs n es[j].body+ptTs n es[j].els≤1000):=Lib.hid (by have:=HLN.out;omega)
      clear HAD0 R2
      have F1:=Lib.hid (HK.out es[j] es[j].body u4 c4 w2 (asgs (n+1) (es.take j) o) _ (List.getElem_mem hlx) (.inl rfl) BW.out RW.out (by have:=HLB.out;omega) (Nat.le_trans HB0.out BW.out.size) (hsb.keep (fun b h=>h) (fun b o h=>BW.out.cell (p:=⟨b,o,none⟩) h)))
      have g33:=HUP.out w2 BW.out 33 _ HC33.out
      go_wp2_with fail
      refine F1.out.mono ?_
      rintro r w3 ⟨v3,rfl,h3,hb3⟩
      have B3:=Lib.hid (BW.out.trans hb3)
      have R3:=Lib.hid h3
      have F2:=Lib.hid (HK.out es[j] es[j].els u5 c5 w3 (asgs n es[j].body (asgs (n+1) (es.take j) o)) v3 (List.getElem_mem hlx) (.inr rfl) B3.out R3.out (by have h1:=asgs_len n es[j].body (asgs (n+1) (es.take j) o);have:=HLB.out;omega) (Nat.le_trans HB0.out B3.out.size) (hse.keep (fun b h=>h) (fun b o h=>B3.out.cell (p:=⟨b,o,none⟩) h)))
      have g34:=HUP.out w3 B3.out 34 _ HC34.out
      clear h3 hb3 F1 g33 hsb hse
      go_wp2_with fail
      refine F2.out.mono ?_
      rintro r w4 ⟨v4,rfl,h4,hb4⟩
      have B4:=Lib.hid (B3.out.trans hb4)
      have R4:Hid (StrRow B (asgs (n+1) (es.take (j+1)) o) v4 w4):=Lib.hid (by rw[HSN.out,HAD.out];exact h4)
      clear h4 hb4 F2 g34
      go_wp2_with fail
      go_roundw
      case rel=>exact⟨j+1,by go_num,by omega,R4,B4⟩
      case measure=>simp[intOf];omega
    | false=>
      have HAD:Hid (adS es[j].p.name (asgs (n+1) (es.take j) o)=(asgs (n+1) (es.take j) o) ++ [es[j].p.name]):=Lib.hid HAD0.out
      have g1:=HUP.out w2 B2.out 1 _ HC1.out
      have hA:Below w2.heap.size w2 (w2.alloc (.cells #[.string es[j].p.name] 9)):=box_low
      have hA0:=B2.out.trans (hA.mono (Nat.le_trans HB0.out B2.out.size))
      obtain⟨v6,w6,hrun,hrow6,hb6⟩:=run_cat_str (w:=w2.alloc (.cells #[.string es[j].p.name] 9)) B (asgs (n+1) (es.take j) o) [es[j].p.name] _ (.slice (some ⟨w2.heap.size,0,none⟩) 1 1) (R2.out.below hA) (Nat.le_trans HB0.out hA0.size) ⟨_,_,rfl,sits_blk (cs:=[.string es[j].p.name]) (heap_alloc_new _ _) (by simp) ⟨rfl,hnm⟩⟩ (fun e=>absurd e (by simp)) (by have:=HLN.out;simp only[List.length_singleton];omega)
      have BW:=Lib.hid (hA0.trans hb6)
      have RW:=Lib.hid hrow6
      have HLB:Hid (((asgs (n+1) (es.take j) o) ++ [es[j].p.name]).length+ptTs n es[j].body+ptTs n es[j].els≤1000):=Lib.hid (by rw[List.length_append,List.length_singleton];have:=HLN.out;omega)
      have g33:=HUP.out w6 BW.out 33 _ HC33.out
      clear hA hA0 hrow6 hb6 HAD0 R2
      go_wp2_with (at_builtin;refine Lib.wpList_append_run _ rfl _ _ _ _ rfl _ _ rfl rfl _ _ (hrun _) ?_)
      clear hrun
      have F1:=Lib.hid (HK.out es[j] es[j].body u4 c4 w6 ((asgs (n+1) (es.take j) o) ++ [es[j].p.name]) _ (List.getElem_mem hlx) (.inl rfl) BW.out RW.out (by have:=HLB.out;omega) (Nat.le_trans HB0.out BW.out.size) (hsb.keep (fun b h=>h) (fun b o h=>BW.out.cell (p:=⟨b,o,none⟩) h)))
      refine F1.out.mono ?_
      rintro r w3 ⟨v3,rfl,h3,hb3⟩
      have B3:=Lib.hid (BW.out.trans hb3)
      have R3:=Lib.hid h3
      have F2:=Lib.hid (HK.out es[j] es[j].els u5 c5 w3 (asgs n es[j].body ((asgs (n+1) (es.take j) o) ++ [es[j].p.name])) v3 (List.getElem_mem hlx) (.inr rfl) B3.out R3.out (by have h1:=asgs_len n es[j].body ((asgs (n+1) (es.take j) o) ++ [es[j].p.name]);have:=HLB.out;omega) (Nat.le_trans HB0.out B3.out.size) (hse.keep (fun b h=>h) (fun b o h=>B3.out.cell (p:=⟨b,o,none⟩) h)))
      have g34:=HUP.out w3 B3.out 34 _ HC34.out
      clear h3 hb3 F1 g33 hsb hse
      go_wp2_with fail
      refine F2.out.mono ?_
      rintro r w4 ⟨v4,rfl,h4,hb4⟩
      have B4:=Lib.hid (B3.out.trans hb4)
      have R4:Hid (StrRow B (asgs (n+1) (es.take (j+1)) o) v4 w4):=Lib.hid (by rw[HSN.out,HAD.out];exact h4)
      clear h4 hb4 F2 g34
      go_wp2_with fail
      go_roundw
      case rel=>exact⟨j+1,by go_num,by omega,R4,B4⟩
      case measure=>simp[intOf];omega
  ·obtain rfl:j=m:=by omega
   have hji:¬(j:Int)<(j:Int):=by omega
   have HR:Hid (StrRow B (asgs (n+1) es o) u1 wo):=Lib.hid (by have h:=hrw.out;rwa [←HM.out,List.take_length]at h)
   have HB:=Lib.hid hbr.out
   clear hrw hbr
   go_wp2_with fail
   go_ret
   exact⟨_,rfl,HR.out,HB.out⟩
theorem assigned_any:∀(n B:Nat) (es:List ST) (o:List ByteArray) (ov:Value) (a:Option Addr) (cap:Nat) (w:World),B≤w.heap.size→StrRow B o ov w→o.length+ptTs n es≤1000→Pak.Sits (stmtSh n) (Pak.Lo B) w a es→Calls Tryz.prog 20 #[.slice a es.length cap,ov] w (AsEnd B (asgs n es o) w)
 | 0,B,es,o,ov,a,cap,w,hB,ho,hp,hs=>by
   have he:es=[]:=by
    cases es with
    | nil=>rfl
    | cons x xs=>
      obtain⟨_,_,_,_,_,_,hr⟩:=hs.2 0 (by simp)
      exact hr.elim
   subst he
   exact assigned_box 0 B [] o ov a 0 cap w rfl hB ho (by simp only[ptTs,List.map_nil,List.sum_nil]at hp⊢;omega) (Pak.Sits.nil _ _ _ _) fun x t u c W xs v hx=>absurd hx (by simp)
 | n+1,B,es,o,ov,a,cap,w,hB,ho,hp,hs=>
   assigned_box n B es o ov a es.length cap w rfl hB ho hp hs fun x t u c W xs v _ _ _ hr hl hBW hst=>assigned_any n B t xs v u c W hBW hr hl hst
end
end Go.Proofs.YtfcaclmcnlflfaaGreatDoor
