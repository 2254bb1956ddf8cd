/- Parts of a proof. -/
import Derived.Test.YtfinhpfjokpcfaaDoorQ14
import Derived.Test.YtfinhpfjokpcfaaDoorQ15
import Derived.Deep.RegionHeld3
set_option linter.unusedVariables false
set_option linter.unusedSimpArgs false
set_option maxHeartbeats 60000000
set_option maxRecDepth 100000
namespace Go.Proofs.YtfinhpfjokpcfaaDoor
section
open Go.RowKit
theorem share_box (g:Nat)(av ah:Option Addr)(nv nh c1 c2:Nat)(ys:List HC)(hb:Bool)(ob:Option Nat)(k N addr val gv:Int)(f:ByteArray)(z0 z1 gb:Bool)(ca ce cx:List Value)(w:World)
 (ht:TkO g (.slice av nv c1) (.slice ah nh c2) ys hb ob w) (hsz:ys.length≤1000000) (hlen:ca.length=15) (q0:ca[0]? =some (.int .i64 k)) (p1:Part ca 4 ce) (p2:Part ca 8 cx) (q12:ca[12]? =some (.string f)) (q13:ca[13]? =some (.int .i64 N)) (l1:ce.length=4) (l2:cx.length=4)
 (x0:∀W,Below g w W→ValAll 14 #[.agg ce.toArray,.slice av nv c1] (.tuple #[.int .i64 addr,.bool z0]) W)
 (x1:∀W,Below g w W→ValAll 14 #[.agg cx.toArray,.slice av nv c1] (.tuple #[.int .i64 val,.bool z1]) W)
 (x2:∀W,Below g w W→ValAll 31 #[.slice ah nh c2,.int .i64 addr,.string f] (.tuple #[.int .i64 gv,getE gb]) W):
 Calls Tryd.prog 19 #[.pointer (some ⟨g,0,none⟩),.agg ca.toArray] w (TkEnd g (.slice av nv c1) (.slice ah nh c2) (ys ++ [⟨addr,f,N⟩]) (hb && (gb && (k == 2 || gv == val))) ob (z0 && z1) w):=by
 generalize hx:(hb && (gb && (k == 2 || gv == val)))=hbb
 have HRB:=Lib.hid hx
 clear hx
 have hg:=ht.lt
 have hol:=ht.ob_lt
 have HA:Hid (Below w.heap.size w (w.alloc (.cells ca.toArray 30))):=box_low
 have HB0:Hid (Below (w.alloc (.cells ca.toArray 30)).heap.size (w.alloc (.cells ca.toArray 30)) (w.alloc (.cells ca.toArray 30))):=Below.refl _ _
 have HT0:=Lib.hid (ht.below HA.out)
 have HK0:=Lib.hid (Kp.of HA.out hg (ob:=ob))
 have HGA:Hid (Below g w (w.alloc (.cells ca.toArray 30))):=Lib.hid (HA.out.mono (Nat.le_of_lt hg))
 have HG:=Lib.hid hg
 have HSZ:=Lib.hid hsz
 have HNE:Hid (¬w.heap.size=g):=Lib.hid (by omega)
 have HNO:Hid (some w.heap.size≠ob):=Lib.hid (fun e=>by have:=hol _ e.symm;omega)
 have HLT:Hid (w.heap.size<(w.alloc (.cells ca.toArray 30)).heap.size):=Lib.hid (by simp)
 have P1:=Lib.hid (fun W (hb:Below (w.alloc (.cells ca.toArray 30)).heap.size (w.alloc (.cells ca.toArray 30)) W)=>box_part p1 hb)
 have P2:=Lib.hid (fun W (hb:Below (w.alloc (.cells ca.toArray 30)).heap.size (w.alloc (.cells ca.toArray 30)) W)=>box_part p2 hb)
 have Q0:=Lib.hid (fun W (hb:Below (w.alloc (.cells ca.toArray 30)).heap.size (w.alloc (.cells ca.toArray 30)) W)=>box_at q0 hb)
 have Q12:=Lib.hid (fun W (hb:Below (w.alloc (.cells ca.toArray 30)).heap.size (w.alloc (.cells ca.toArray 30)) W)=>box_at q12 hb)
 have Q13:=Lib.hid (fun W (hb:Below (w.alloc (.cells ca.toArray 30)).heap.size (w.alloc (.cells ca.toArray 30)) W)=>box_at q13 hb)
 have L0:=Lib.hid hlen
 have L1:=Lib.hid l1
 have L2:=Lib.hid l2
 have X0:=Lib.hid x0
 have X1:=Lib.hid x1
 have X2:=Lib.hid x2
 clear ht hsz hlen q0 p1 p2 q12 q13 l1 l2 x0 x1 x2 hg hol
 have r0:=(X0.out _ HGA.out).reg
 have k0:=cell_regrown HT0.out.c0
 go_enter Tryd.func19,Tryd.ntmps19
 go_wp2_with fail
 refine wp_region_quiet_below (by kernel_rfl) (by kernel_rfl) ?_
 repeat (first | (go_big_quiet_step (with_reducible exact r0 _ _)) | (refine wpQuiet_load_c 27 _ rfl ⟨w.heap.size,4,none⟩ rfl ce _ P1.out rfl Tryd.underlying27 rfl (by rw[L1.out];kernel_rfl) _ (by simp only[Act.put,List.setIfInBounds_toArray,List.set_cons_succ,List.set_cons_zero];rfl) ?_))
 refine wpQuiet_nil ?_
 intro w9 hw'
 obtain⟨⟨dq,osq⟩,hw''⟩:=hw'
 have H1:Hid (Below (w.alloc (.cells ca.toArray 30)).heap.size (w.alloc (.cells ca.toArray 30)) w9):=Lib.hid (by rw[hw''];exact below_regrown _ dq osq)
 clear hw'' r0 k0
 have HT1:=Lib.hid (HT0.out.below H1.out)
 have HG1:=Lib.hid (HGA.out.trans (H1.out.mono (Nat.le_trans (Nat.le_of_lt HG.out) HA.out.size)))
 have r1:=(X1.out _ HG1.out).reg
 have k1:=cell_regrown HT1.out.c0
 go_wp2_with fail
 refine wp_region_quiet_below (by kernel_rfl) (by kernel_rfl) ?_
 repeat (first | (go_big_quiet_step (with_reducible exact r1 _ _)) | (refine wpQuiet_load_c 27 _ rfl ⟨w.heap.size,8,none⟩ rfl cx _ (fun W hW=>P2.out W (H1.out.trans (hW.mono H1.out.size))) rfl Tryd.underlying27 rfl (by rw[L2.out];kernel_rfl) _ (by simp only[Act.put,List.setIfInBounds_toArray,List.set_cons_succ,List.set_cons_zero];rfl) ?_))
 refine wpQuiet_nil ?_
 intro w8 hw'
 obtain⟨⟨dq,osq⟩,hw''⟩:=hw'
 have H2:Hid (Below (w.alloc (.cells ca.toArray 30)).heap.size (w.alloc (.cells ca.toArray 30)) w8):=Lib.hid (by rw[hw''];exact H1.out.trans ((below_regrown _ dq osq).mono H1.out.size))
 have HT2:Hid (TkO g (.slice av nv c1) (.slice ah nh c2) ys hb ob w8):=Lib.hid (by rw[hw''];exact HT1.out.below (below_regrown _ dq osq))
 clear hw'' r1 k1
 have HD:Hid (Below (w.alloc (.cells ca.toArray 30)).heap.size (w.alloc (.cells ca.toArray 30)) w8.drew):=Lib.hid H2.out.drew
 have HK2:Hid (Kp g ob w w8.drew):=Lib.hid (HK0.out.below HD.out (HG.out))
 obtain⟨v5,gg,cp6,w6,hc5,hrun,hc6,hf6,hk6,ob6,ht6,hn6⟩:=(HT2.out.below (Below.refl _ w8).drew).push ⟨addr,f,N⟩ HSZ.out
 have HRUN:Hid (∀ty,(Builtin.append_ #[35,35] ty #[v5,.slice (some ⟨w8.heap.size,0,none⟩) 1 1]).run Tryd.prog (w8.alloc (.cells #[.int .i64 addr,.string f,.int .i64 N] 43)).drew= .ok (.slice (some ⟨gg,0,none⟩) (ys.length+1) cp6) w6):=fun ty=>hrun ty
 have HK6:=Lib.hid ((HK2.out.trans hk6 (.inl rfl)).set 2 (.slice (some ⟨gg,0,none⟩) (ys.length+1) cp6))
 have HK6D:=Lib.hid (hk6.set 2 (.slice (some ⟨gg,0,none⟩) (ys.length+1) cp6))
 have HT6:=Lib.hid ht6
 have HN6:Hid (New ob ob6 w.heap.size):=Lib.hid (by
  have hs:w.heap.size≤w8.drew.heap.size:=Nat.le_trans HA.out.size HD.out.size
  rcases hn6 with e | ⟨k,e,h⟩
  ·exact .inl e
  ·exact .inr ⟨k,e,Nat.le_trans hs h⟩)
 have q12:w8.cell? ⟨w.heap.size,12,none⟩=some (.string f):=Q12.out _ H2.out
 have q13:w8.cell? ⟨w.heap.size,13,none⟩=some (.int .i64 N):=Q13.out _ H2.out
 have q2:w8.cell? ⟨g,2,none⟩=some v5:=hc5
 have q2a:(w8.alloc (.cells #[.int .i64 addr,.string f,.int .i64 N] 43)).cell? ⟨g,2,none⟩=some v5:=((box_low (w:=w8)).cell (p:=⟨g,2,none⟩) HT2.out.lt).trans q2
 have q2b:(w8.alloc (.cells #[.int .i64 addr,.string f,.int .i64 N] 43)).drew.cell? ⟨g,2,none⟩=some v5:=q2a
 have HB12:=Lib.hid (fun o (v:Value) (h:w8.drew.cell? ⟨w.heap.size,o,none⟩=some v)=>(HK6D.out.cell ⟨w.heap.size,o,none⟩ (Nat.lt_of_lt_of_le HLT.out HD.out.size) HNE.out HNO.out).trans h)
 have HB6:Hid (w6.cell? ⟨w.heap.size,12,none⟩=some (.string f)∧w6.cell? ⟨w.heap.size,13,none⟩=some (.int .i64 N)):=Lib.hid ⟨(hk6.cell ⟨w.heap.size,12,none⟩ (Nat.lt_of_lt_of_le HLT.out HD.out.size) HNE.out HNO.out).trans q12,(hk6.cell ⟨w.heap.size,13,none⟩ (Nat.lt_of_lt_of_le HLT.out HD.out.size) HNE.out HNO.out).trans q13⟩
 have HQ12:=Lib.hid q12
 have HQ0:=Lib.hid (Q0.out _ HD.out)
 have hg2:¬w.heap.size=g:=HNE.out
 have hg3:¬g=w.heap.size:=fun e=>HNE.out e.symm
 clear hrun hk6 ht6 hn6 hc5
 go_wp2_with fail
 go_region_law ((refine step_append_run (by rfl) _ _ _ (by rfl) _ _ _ w6 (by rfl) (by rfl) HRUN.out ?_))
 all_goals (
  clear q12 q13 q2 q2a q2b hg2 hg3 hc6 hf6 HRUN HB6
  generalize w6.setCell ⟨g,2,none⟩ (.slice (some ⟨gg,0,none⟩) (ys.length+1) cp6)=w5 at*
  have r4:=(X2.out _ HK6.out.low).reg
  have k4:=cell_regrown HT6.out.c1
  have k5:=cell_regrown (HB12.out 12 _ HQ12.out)
  go_wp2_with fail
  refine wp_region_quiet_below (by kernel_rfl) (by kernel_rfl) ?_
  repeat (go_big_quiet_step (with_reducible exact r4 _ _))
  refine wpQuiet_nil ?_
  intro w4 hw'
  obtain⟨⟨dq,osq⟩,hw''⟩:=hw'
  have H4:Hid (Below w5.heap.size w5 w4):=Lib.hid (by rw[hw''];exact below_regrown _ dq osq)
  clear hw'' r4 k4 k5
  have HT4:=Lib.hid (HT6.out.below H4.out)
  have HK4:=Lib.hid (HK6.out.below H4.out HG.out)
  have q0:w4.cell? ⟨w.heap.size,0,none⟩=some (.int .i64 k):=(H4.out.cell (p:=⟨w.heap.size,0,none⟩) (Nat.lt_of_lt_of_le HLT.out (Nat.le_trans HD.out.size HK6D.out.low.size))).trans (HB12.out 0 _ HQ0.out)
  have q3:=HT4.out.c3
  have f3:=HT4.out.fz 3
  have HE:Hid (∀b,b=hbb→Kp g ob w (w4.setCell ⟨g,3,none⟩ (.bool b))∧TkO g (.slice av nv c1) (.slice ah nh c2) (ys ++ [⟨addr,f,N⟩]) hbb ob6 (w4.setCell ⟨g,3,none⟩ (.bool b))):=Lib.hid fun b e=>by rw[e];exact⟨HK4.out.set 3 _,HT4.out.hold hbb⟩
  have hg2:¬w.heap.size=g:=HNE.out
  have hg3:¬g=w.heap.size:=fun e=>HNE.out e.symm
  clear HK4 HT4
  generalize hgv:(gv == val)=b3
  generalize hkk:(k == 2)=b4
  have HGV:=Lib.hid hgv
  have HKK:=Lib.hid hkk
  cases hb with
  | false=>
    have e0:false=hbb:=by rw[←HRB.out];rfl
    have HE2:=Lib.hid (HE.out _ e0)
    clear hgv hkk HE HRB e0
    cases gb<;>cases b4<;>(
     cases z0<;>(
      go_wp2_with fail
      go_ret
      exact⟨rfl,HE2.out.1,ob6,HE2.out.2,HN6.out⟩))
  | true=>
  cases gb with
  | false=>
    have e0:false=hbb:=by rw[←HRB.out];rfl
    have HE2:=Lib.hid (HE.out _ e0)
    clear hgv hkk HE HRB e0
    simp only[show getE false= .iface 57 (.int .i64 15) from rfl]
    cases b4<;>(
     cases z0<;>(
      go_wp2_with fail
      go_ret
      exact⟨rfl,HE2.out.1,ob6,HE2.out.2,HN6.out⟩))
  | true=>
  simp only[show getE true= .nilIface from rfl]
  cases b4 with
  | true=>
    have e0:true=hbb:=by rw[←HRB.out,HKK.out];rfl
    have HE2:=Lib.hid (HE.out _ e0)
    clear hgv HE HRB e0
    cases z0<;>(
     go_wp2_with fail
     go_ret
     exact⟨rfl,HE2.out.1,ob6,HE2.out.2,HN6.out⟩)
  | false=>
    have e0:b3=hbb:=by rw[←HRB.out,HKK.out,HGV.out];rfl
    have HE2:=Lib.hid (HE.out _ e0)
    clear HE HRB e0
    cases z0<;>(
     go_wp2_with fail
     go_ret
     exact⟨rfl,HE2.out.1,ob6,HE2.out.2,HN6.out⟩))
end
section
open Go.RowKit
theorem chk_parts {nm:ByteArray→Bool}{n:Nat}{q:QT}(h:chkQ nm n [q]=0):snQ nm n q=true:=by
 unfold chkQ at h
 cases h1:([q]:List QT).any dpQ with
 | true=>rw[h1]at h;cases h
 | false=>
   rw[h1]at h
   cases h2:([q]:List QT).all (snQ nm n)with
   | false=>rw[h2]at h;cases h
   | true=>simpa using h2
theorem chk_set {nm:ByteArray→Bool}{n:Nat}{e:ET}(h:chkQ nm (n+3) [pOf zA [sSet e]]=0):snE nm (n+2) e=true:=by
 have h1:=chk_parts h
 unfold snQ pOf at h1
 simp only[Bool.and_eq_true,List.all_cons,List.all_nil,Bool.and_true]at h1
 have h2:=h1.2
 unfold snS at h2
 rw[if_pos (show 0≤(sSet e).p.kind∧(sSet e).p.kind<10 from⟨by show(0:Int)≤1;decide,by show(1:Int)<10;decide⟩)]at h2
 simp only[Bool.and_eq_true]at h2
 have h3:=h2.1.1.1.1.1.1.1.2
 rw[show hasB (sSet e).p.kind.toNat 8=true from by show hasB 1 8=true;decide]at h3
 exact h3
theorem chk_pre {nm:ByteArray→Bool}{n:Nat}{a:AT}(h:chkQ nm n [pOf a []]=0):snA nm n a=true:=by
 have h1:=chk_parts h
 unfold snQ pOf at h1
 simp only[Bool.and_eq_true]at h1
 exact h1.1.1.2
theorem proc_rel {n:Nat}{W:World}{ca:List Value}{a:AT}{v:Value}{l:List ST}(x:ByteArray)(hx:x.size≤maxLen)(ha:(assnSh (n+3)).rel (Pak.Lo W.heap.size) W ca a)(hl:Pak.Slot (stmtSh (n+3)) (Pak.Lo W.heap.size) W v l):(procSh (n+3)).rel (Pak.Lo W.heap.size) W ([.string x,.slice none 0 0,.slice none 0 0] ++ (ca ++ (zAc ++ [v]))) ⟨x,[],[],a,zA,l⟩:=
 ⟨_,_,ca,zAc,v,rfl,hx,slot_nil _ _ _,slot_nil _ _ _,ha,zA_rel (n+1) _ _,hl⟩
theorem refused_any (n:Nat)(a:AT)(ca:List Value)(v:Value)(l:List ST)(x0:Value)(w:World)(ha:(assnSh (n+3)).rel (Pak.Lo w.heap.size) w ca a)(hl:Pak.Slot (stmtSh (n+3)) (Pak.Lo w.heap.size) w v l)(hL:Laid w):
 Calls Tryd.prog 10 #[.agg (x0 :: (.slice none 0 0 :: .slice none 0 0 :: (ca ++ (zAc ++ [v])))).toArray] w (SoundEnd (!(chkQ nmB (n+3) [pOf a l] == 0)) w):=by
 have hla:=((assnSh (n+3)).len ha).trans (assnSh_k _)
 refine refused_box x0 _ _ w (by simp[hla,zAc]) (fun u hu=> ?_) (fun W g hW hg=> ?_)
 ·simp only[List.mem_cons,List.mem_append,List.not_mem_nil,or_false]at hu
  rcases hu with rfl | rfl | hu | hu | rfl
  ·rfl
  ·rfl
  ·exact(assnSh (n+3)).one ha u hu
  ·exact(assnSh (n+3)).one (zA_rel (n+1) (fun _=>True) w) u hu
  ·exact hl.one
 ·have hp:(procSh (n+3)).rel (Pak.Lo W.heap.size) W (.string ⟨#[112]⟩ :: .slice none 0 0 :: .slice none 0 0 :: (ca ++ (zAc ++ [v]))) (pOf a l):=proc_rel ⟨#[112]⟩ (by decide) (rel_low ha hW) (hl.keep (fun b (h:b<w.heap.size)=>Nat.lt_of_lt_of_le h hW.size) (fun b o (h:b<w.heap.size)=>hW.cell (p:=⟨b,o,none⟩) h))
  exact check_prog nmLaw (n+3) [pOf a l] (some ⟨g,0,none⟩) 1 W (sits_block hg (show g<W.heap.size from(Array.getElem?_eq_some_iff.1 hg).1) hp) (hL.up hW)
def exR (k:Int)(x:Int×Bool):Int×Int:=if k=0 then(if x.2=true then(x.1,0) else(0,3)) else(0,5)
theorem expr_box (k0 m0:Int)(s0:ByteArray)(a0:Option Addr)(l0 c0:Nat)(vs:Value)(k:Int)(v:Int)(b:Bool)(w:World)
 (hr:Calls Tryd.prog 10 #[.agg #[.string ⟨#[]⟩,.slice none 0 0,.slice none 0 0,.int .i64 0,.int .i64 0,.slice none 0 0,.slice none 0 0,.int .i64 0,.int .i64 0,.string ⟨#[]⟩,.slice none 0 0,.int .i64 0,.int .i64 0,.string ⟨#[]⟩,.slice none 0 0,.string ⟨#[]⟩,.int .i64 0,.slice none 0 0,.int .i64 0,.int .i64 0,.slice none 0 0,.slice none 0 0,.int .i64 0,.int .i64 0,.string ⟨#[]⟩,.slice none 0 0,.int .i64 0,.int .i64 0,.string ⟨#[]⟩,.slice none 0 0,.string ⟨#[]⟩,.int .i64 0,.slice none 0 0,.slice (some ⟨w.heap.size+1,0,none⟩) 1 1]] ((w.alloc (.cells #[.int .i64 k0,.int .i64 m0,.string s0,.slice a0 l0 c0] 27)).alloc (.cells #[.int .i64 1,.string ⟨#[120]⟩,.string ⟨#[]⟩,.string ⟨#[]⟩,.int .i64 k0,.int .i64 m0,.string s0,.slice a0 l0 c0,.int .i64 0,.int .i64 0,.string ⟨#[]⟩,.slice none 0 0,.int .i64 0,.slice none 0 0,.slice none 0 0,.int .i64 0,.int .i64 0,.slice none 0 0,.slice none 0 0,.int .i64 0,.int .i64 0,.string ⟨#[]⟩,.slice none 0 0,.int .i64 0,.int .i64 0,.string ⟨#[]⟩,.slice none 0 0,.string ⟨#[]⟩,.int .i64 0,.slice none 0 0,.slice none 0 0,.slice none 0 0,.slice none 0 0,.slice none 0 0,.slice none 0 0] 63)) (SoundEnd (!(k == 0)) ((w.alloc (.cells #[.int .i64 k0,.int .i64 m0,.string s0,.slice a0 l0 c0] 27)).alloc (.cells #[.int .i64 1,.string ⟨#[120]⟩,.string ⟨#[]⟩,.string ⟨#[]⟩,.int .i64 k0,.int .i64 m0,.string s0,.slice a0 l0 c0,.int .i64 0,.int .i64 0,.string ⟨#[]⟩,.slice none 0 0,.int .i64 0,.slice none 0 0,.slice none 0 0,.int .i64 0,.int .i64 0,.slice none 0 0,.slice none 0 0,.int .i64 0,.int .i64 0,.string ⟨#[]⟩,.slice none 0 0,.int .i64 0,.int .i64 0,.string ⟨#[]⟩,.slice none 0 0,.string ⟨#[]⟩,.int .i64 0,.slice none 0 0,.slice none 0 0,.slice none 0 0,.slice none 0 0,.slice none 0 0,.slice none 0 0] 63))))
 (hv:k=0→ValAll 14 #[.agg #[.int .i64 k0,.int .i64 m0,.string s0,.slice a0 l0 c0],vs] (.tuple #[.int .i64 v,.bool b]) w):
 Calls Tryd.prog 8 #[.agg #[.int .i64 k0,.int .i64 m0,.string s0,.slice a0 l0 c0],vs] w fun r w'=>r= .returned (.tuple #[.int .i64 (exR k (v,b)).1,erV (exR k (v,b)).2])∧Below w.heap.size w w':=by
 have HA:Hid (Below w.heap.size w (w.alloc (.cells #[.int .i64 k0,.int .i64 m0,.string s0,.slice a0 l0 c0] 27))):=box_low
 have HA1:Hid (Below w.heap.size w ((w.alloc (.cells #[.int .i64 k0,.int .i64 m0,.string s0,.slice a0 l0 c0] 27)).alloc (.cells #[.int .i64 1,.string ⟨#[120]⟩,.string ⟨#[]⟩,.string ⟨#[]⟩,.int .i64 k0,.int .i64 m0,.string s0,.slice a0 l0 c0,.int .i64 0,.int .i64 0,.string ⟨#[]⟩,.slice none 0 0,.int .i64 0,.slice none 0 0,.slice none 0 0,.int .i64 0,.int .i64 0,.slice none 0 0,.slice none 0 0,.int .i64 0,.int .i64 0,.string ⟨#[]⟩,.slice none 0 0,.int .i64 0,.int .i64 0,.string ⟨#[]⟩,.slice none 0 0,.string ⟨#[]⟩,.int .i64 0,.slice none 0 0,.slice none 0 0,.slice none 0 0,.slice none 0 0,.slice none 0 0,.slice none 0 0] 63))):=Lib.hid (HA.out.alloc (by simp) _)
 have HB1:Hid (Below (w.alloc (.cells #[.int .i64 k0,.int .i64 m0,.string s0,.slice a0 l0 c0] 27)).heap.size (w.alloc (.cells #[.int .i64 k0,.int .i64 m0,.string s0,.slice a0 l0 c0] 27)) ((w.alloc (.cells #[.int .i64 k0,.int .i64 m0,.string s0,.slice a0 l0 c0] 27)).alloc (.cells #[.int .i64 1,.string ⟨#[120]⟩,.string ⟨#[]⟩,.string ⟨#[]⟩,.int .i64 k0,.int .i64 m0,.string s0,.slice a0 l0 c0,.int .i64 0,.int .i64 0,.string ⟨#[]⟩,.slice none 0 0,.int .i64 0,.slice none 0 0,.slice none 0 0,.int .i64 0,.int .i64 0,.slice none 0 0,.slice none 0 0,.int .i64 0,.int .i64 0,.string ⟨#[]⟩,.slice none 0 0,.int .i64 0,.int .i64 0,.string ⟨#[]⟩,.slice none 0 0,.string ⟨#[]⟩,.int .i64 0,.slice none 0 0,.slice none 0 0,.slice none 0 0,.slice none 0 0,.slice none 0 0,.slice none 0 0] 63))):=box_low
 have HC:=Lib.hid hr
 have HV:=Lib.hid hv
 have Q:=Lib.hid (fun W (hb:Below (w.alloc (.cells #[.int .i64 k0,.int .i64 m0,.string s0,.slice a0 l0 c0] 27)).heap.size (w.alloc (.cells #[.int .i64 k0,.int .i64 m0,.string s0,.slice a0 l0 c0] 27)) W)=>And.intro (box_at (cs:=[.int .i64 k0,.int .i64 m0,.string s0,.slice a0 l0 c0]) (o:=0) rfl hb) (And.intro (box_at (cs:=[.int .i64 k0,.int .i64 m0,.string s0,.slice a0 l0 c0]) (o:=1) rfl hb) (And.intro (box_at (cs:=[.int .i64 k0,.int .i64 m0,.string s0,.slice a0 l0 c0]) (o:=2) rfl hb) (box_at (cs:=[.int .i64 k0,.int .i64 m0,.string s0,.slice a0 l0 c0]) (o:=3) rfl hb))))
 clear hr hv
 go_enter Tryd.func8,Tryd.ntmps8
 go_wp2_with fail
 refine HC.out.mono ?_
 rintro r w2 ⟨rfl,hb⟩
 have HB:=Lib.hid (HA1.out.trans (hb.mono HA1.out.size))
 have HBB:=Lib.hid (HB1.out.trans (hb.mono HB1.out.size))
 clear hb HC
 by_cases hk:k=0
 ·have HV2:=Lib.hid ((HV.out hk).at HB.out)
  have HR:Hid (exR k (v,b)=if b=true then(v,0) else(0,3)):=if_pos hk
  have hz:(!(k == 0))=false:=by rw[hk];rfl
  rw[hz]
  obtain⟨q0,q1,q2,q3⟩:=Q.out _ HBB.out
  clear HV hz hk Q
  go_wp2_with fail
  refine HV2.out.mono ?_
  rintro r w3 ⟨rfl,hb⟩
  have HB3:=Lib.hid (HB.out.trans (hb.mono HB.out.size))
  clear hb HV2 q0 q1 q2 q3
  cases b with
  | true=>
    go_wp2_with fail
    go_ret2
    exact⟨by rw[HR.out];rfl,HB3.out⟩
  | false=>
    go_wp2_with fail
    go_ret2
    exact⟨by rw[HR.out];rfl,HB3.out⟩
 ·have HR:Hid (exR k (v,b)=(0,5)):=if_neg hk
  have hz:(!(k == 0))=true:=by rw[beq_eq_false_iff_ne.2 hk];rfl
  rw[hz]
  clear HV hz hk Q
  go_wp2_with fail
  go_ret2
  exact⟨by rw[HR.out];rfl,HB.out⟩
end
section
open Go.RowKit
theorem two_below (w:World)(c1:Array Value)(t1:TypeId)(c2:Array Value)(t2:TypeId):Below w.heap.size w ((w.alloc (.cells c1 t1)).alloc (.cells c2 t2)):=box_low.alloc (by simp) _
theorem two_at (w:World)(c1:Array Value)(t1:TypeId)(c2:Array Value)(t2:TypeId):((w.alloc (.cells c1 t1)).alloc (.cells c2 t2)).heap[w.heap.size+1]? =some (.cells c2 t2 (0,0)):=by
 have:=heap_alloc_new (w.alloc (.cells c1 t1)) (.cells c2 t2)
 rwa [show(w.alloc (.cells c1 t1)).heap.size=w.heap.size+1 by simp]at this
end
section
open Go.RowKit
def ekE (n:Nat)(e:ET):Int:=chkQ nmB (n+3) [pOf zA [sSet e]]
def akA (n:Nat)(a:AT):Int:=chkQ nmB (n+3) [pOf a []]
theorem hExpr_any (n:Nat)(e:ET)(cs:List Value)(xs:List (ByteArray×Int))(av:Option Addr)(cv:Nat)(w:World)(h:(exprSh (n+2)).rel (Pak.Lo w.heap.size) w cs e)(hx:Pak.Sits varSh (Pak.Lo w.heap.size) w av xs)(hL:Laid w):
 Calls Tryd.prog 8 #[.agg cs.toArray,.slice av xs.length cv] w fun r w'=>r= .returned (.tuple #[.int .i64 (exR (ekE n e) (valE (fun s=>varOf s xs) (n+2) e)).1,erV (exR (ekE n e) (valE (fun s=>varOf s xs) (n+2) e)).2])∧Below w.heap.size w w':=by
 have h0:=h
 obtain⟨v,rfl,_,a0,c0,rfl,hs⟩:=h
 have hb:=fun c1 c2=>two_below w c1 27 c2 63
 have hp:=fun c1 c2=>sSet_rel (rel_low h0 (hb c1 c2))
 refine expr_box e.kind e.n e.name a0 _ c0 _ (ekE n e) _ _ w ?_ (fun hk=>hexpr_all nmB xs av cv (n+2) e _ w (chk_set hk) h0 hx)
 exact refused_any n zA zAc _ [sSet e] _ _ (zA_rel (n+1) _ _) ⟨some ⟨w.heap.size+1,0,none⟩,1,rfl,sits_block (two_at w _ _ _ _) (by simp) (hp _ _)⟩ (hL.up (hb _ _))
end
end Go.Proofs.YtfinhpfjokpcfaaDoor
