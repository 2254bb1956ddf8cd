/- Parts of a proof. -/
import Derived.Test.YtfcaclmcnlflfaaGreatDoorQ06
import Derived.Test.YtfcaclmcnlflfaaGreatDoorQ17
import Derived.Test.YtfcaclmcnlflfaaGreatDoorQ21
import Derived.Test.YtfcaclmcnlflfaaGreatDoorQ22
import Derived.Test.YtfcaclmcnlflfaaGreatDoorQ24
import Derived.Test.YtfcaclmcnlflfaaGreatDoorQ27
import Derived.Test.YtfcaclmcnlflfaaGreatDoorQ28
import Derived.Deep.Slices
import Derived.Deep.Fields
import Derived.Lib.SmallJoins
set_option linter.unusedVariables false
set_option linter.unusedSimpArgs false
set_option maxHeartbeats 60000000
set_option maxRecDepth 100000
namespace Go.Proofs.YtfcaclmcnlflfaaGreatDoor
section
open Go.RowKit
def noA2 (a:AT):Bool:=a.kind == 0 && noC a.c && noE a.e && noE a.v && a.field.toList.isEmpty && a.n == 0 && a.ks.length == 0
theorem noA_eq (nm:ByteArray→Bool)(n:Nat)(a:AT):noA nm (n+1) a=noA2 a:=by
 unfold noA noA2 snA shA
 by_cases hk:a.kind=0
 ·rw[hk]
  simp only[ksA]
  by_cases h0:a.ks.length=0
  ·have:a.ks=[]:=List.length_eq_zero_iff.1 h0
   rw[this]
   rw[Bool.eq_iff_iff]
   simp[and_assoc,and_comm,and_left_comm]
  ·rw[Bool.eq_iff_iff]
   simp[h0]
   try (intros;simp_all)
 ·have:(a.kind == 0)=false:=beq_eq_false_iff_ne.2 hk
  rw[this]
  rfl
theorem hasA_box (k:Int)(cs cc ce cv:List Value)(fs:ByteArray)(fn:Int)(a:Option Addr)(m c:Nat)(zC zE zV:Bool)(w:World)
 (q0:cs[0]? =some (.int .i64 k)) (p1:Part cs 1 cc) (p2:Part cs 4 ce) (p3:Part cs 8 cv) (q12:cs[12]? =some (.string fs)) (q13:cs[13]? =some (.int .i64 fn)) (q14:cs[14]? =some (.slice a m c)) (l1:cc.length=3) (l2:ce.length=4) (l3:cv.length=4)
 (x1:BoolAll 88 #[.agg cc.toArray] zC w) (x2:BoolAll 89 #[.agg ce.toArray] zE w) (x3:BoolAll 89 #[.agg cv.toArray] zV w):
 Calls Tryz.prog 125 #[.agg cs.toArray] w (SoundEnd (!(k == 0) || zC || zE || zV || !fs.toList.isEmpty || !(fn == 0) || !(m == 0)) w):=by
 have HA:Hid (Below w.heap.size w (w.alloc (.cells cs.toArray 44))):=box_low
 have HB0:Hid (Below (w.alloc (.cells cs.toArray 44)).heap.size (w.alloc (.cells cs.toArray 44)) (w.alloc (.cells cs.toArray 44))):=Below.refl _ _
 have X1:=Lib.hid (x1.up HA.out)
 have P1:=Lib.hid (fun W (hb:Below (w.alloc (.cells cs.toArray 44)).heap.size (w.alloc (.cells cs.toArray 44)) W)=>box_part p1 hb)
 have L1:=Lib.hid l1
 have X2:=Lib.hid (x2.up HA.out)
 have P2:=Lib.hid (fun W (hb:Below (w.alloc (.cells cs.toArray 44)).heap.size (w.alloc (.cells cs.toArray 44)) W)=>box_part p2 hb)
 have L2:=Lib.hid l2
 have X3:=Lib.hid (x3.up HA.out)
 have P3:=Lib.hid (fun W (hb:Below (w.alloc (.cells cs.toArray 44)).heap.size (w.alloc (.cells cs.toArray 44)) W)=>box_part p3 hb)
 have L3:=Lib.hid l3
 have Q0:=Lib.hid (fun W (hb:Below (w.alloc (.cells cs.toArray 44)).heap.size (w.alloc (.cells cs.toArray 44)) W)=>box_at q0 hb)
 have Q12:=Lib.hid (fun W (hb:Below (w.alloc (.cells cs.toArray 44)).heap.size (w.alloc (.cells cs.toArray 44)) W)=>box_at q12 hb)
 have Q13:=Lib.hid (fun W (hb:Below (w.alloc (.cells cs.toArray 44)).heap.size (w.alloc (.cells cs.toArray 44)) W)=>box_at q13 hb)
 have Q14:=Lib.hid (fun W (hb:Below (w.alloc (.cells cs.toArray 44)).heap.size (w.alloc (.cells cs.toArray 44)) W)=>box_at q14 hb)
 clear x1 x2 x3 p1 p2 p3 l1 l2 l3 q0 q12 q13 q14
 have k0:=Q0.out _ HB0.out
 by_cases hk:k=0
 ·subst hk
  go_enter Tryz.func125,Tryz.ntmps125
  go_wp2_with (first | go_skip | (refine wpList_load_w (by kernel_rfl) 41 _ rfl ⟨w.heap.size,1,none⟩ rfl cc _ (P1.out _ HB0.out) Tryz.underlying41 rfl (by rw[L1.out];kernel_rfl) ?_))
  refine(X1.out.at HB0.out).mono ?_
  rintro r w1 ⟨rfl,hb⟩
  have H1:=Lib.hid (HB0.out.trans (hb.mono HB0.out.size))
  clear hb
  clear k0
  cases zC with
  | true=>
    have HZ:=Lib.hid (HA.out.trans (H1.out.mono HA.out.size))
    go_wp2_with fail
    go_ret
    exact⟨by simp_all,HZ.out⟩
  | false=>
  go_wp2_with (first | go_skip | (refine wpList_load_w (by kernel_rfl) 37 _ rfl ⟨w.heap.size,4,none⟩ rfl ce _ (P2.out _ H1.out) Tryz.underlying37 rfl (by rw[L2.out];kernel_rfl) ?_))
  refine(X2.out.at H1.out).mono ?_
  rintro r w2 ⟨rfl,hb⟩
  have H2:=Lib.hid (H1.out.trans (hb.mono H1.out.size))
  clear hb
  cases zE with
  | true=>
    have HZ:=Lib.hid (HA.out.trans (H2.out.mono HA.out.size))
    go_wp2_with fail
    go_ret
    exact⟨by simp_all,HZ.out⟩
  | false=>
  go_wp2_with (first | go_skip | (refine wpList_load_w (by kernel_rfl) 37 _ rfl ⟨w.heap.size,8,none⟩ rfl cv _ (P3.out _ H2.out) Tryz.underlying37 rfl (by rw[L3.out];kernel_rfl) ?_))
  refine(X3.out.at H2.out).mono ?_
  rintro r w3 ⟨rfl,hb⟩
  have H3:=Lib.hid (H2.out.trans (hb.mono H2.out.size))
  clear hb
  cases zV with
  | true=>
    have HZ:=Lib.hid (HA.out.trans (H3.out.mono HA.out.size))
    go_wp2_with fail
    go_ret
    exact⟨by simp_all,HZ.out⟩
  | false=>
  have k12:=Q12.out _ H3.out
  have k13:=Q13.out _ H3.out
  have k14:=Q14.out _ H3.out
  have HZ:=Lib.hid (HA.out.trans (H3.out.mono HA.out.size))
  by_cases hs:fs.toList=[]
  ·have hse:fs.toList.isEmpty=true:=by simp[hs]
   by_cases h1:fn=0
   ·subst h1
    have hm:Hid (((m:Int) != 0)= !(m == 0)):=nat_bne0 m
    go_wp2_with fail
    go_ret
    exact⟨by simp[hse,hm.out],HZ.out⟩
   ·have h1b:(fn == 0)=false:=by simp[h1]
    have h1c:(fn != 0)=true:=by simp[h1]
    go_wp2_with fail
    go_ret
    exact⟨by simp[hse,h1b],HZ.out⟩
  ·have hse:fs.toList.isEmpty=false:=by simp[hs]
   have hsf:(fs.toList == [])=false:=by simp[hs]
   go_wp2_with fail
   go_ret
   exact⟨by simp[hse],HZ.out⟩
 ·have hk0:(k == 0)=false:=by simp[hk]
  have hk1:(k != 0)=true:=by simp[hk]
  go_enter Tryz.func125,Tryz.ntmps125
  go_wp2_with fail
  go_ret
  exact⟨by simp[hk0],HA.out⟩
theorem hasA_any (n:Nat)(s:AT)(cs:List Value)(w:World)(h:(assnSh n).rel (Pak.Lo w.heap.size) w cs s):Calls Tryz.prog 125 #[.agg cs.toArray] w (SoundEnd (!noA2 s) w):=by
 cases n with
 | zero=>exact h.elim
 | succ n=>
   obtain⟨cc,ce,cv,a,c,H⟩:=assn_is h
   have:=hasA_box s.kind cs cc ce cv s.field s.n a _ c _ _ _ w H.kind H.pc H.pe H.pv H.field H.num H.kids H.lc H.le H.lv (fun W hW=>hasC_any n s.c cc W (rel_low H.rc hW)) (fun W hW=>hasE_any n s.e ce W (rel_low H.re hW)) (fun W hW=>hasE_any n s.v cv W (rel_low H.rv hW))
   have e:(!noA2 s)=(!(s.kind == 0) || !noC s.c || !noE s.e || !noE s.v || !s.field.toList.isEmpty || !(s.n == 0) || !(s.ks.length == 0)):=by
    unfold noA2
    simp only[Bool.not_and]
   rw[e]
   exact this
theorem rstmt_x (k:Int)(cs:List Value)(w:World)(q0:cs[0]? =some (.int .i64 k))(h:¬(0≤k∧k<10)):Calls Tryz.prog 92 #[.agg cs.toArray] w (SoundEnd false w):=by
 have HA:Hid (Below w.heap.size w (w.alloc (.cells cs.toArray 47))):=box_low
 have HB1:Hid (Below (w.alloc (.cells cs.toArray 47)).heap.size (w.alloc (.cells cs.toArray 47)) ((w.alloc (.cells cs.toArray 47)).alloc (.cells #[.string ⟨#[]⟩,.string ⟨#[110,101]⟩,.string ⟨#[110,101,102]⟩,.string ⟨#[101,102,118]⟩,.string ⟨#[110,108]⟩,.string ⟨#[101,102]⟩,.string ⟨#[99,98,120]⟩,.string ⟨#[99,97,98]⟩,.string ⟨#[99]⟩,.string ⟨#[110,107]⟩] 9))):=(Below.refl _ _).alloc (Nat.le_refl _) _
 have k0:=box_at (t:=47) q0 (Below.refl _ (w.alloc (.cells cs.toArray 47)))
 have k1:=box_at (t:=47) q0 HB1.out
 have HZ:=Lib.hid (HA.out.trans (HB1.out.mono HA.out.size))
 clear q0
 by_cases h0:k<0
 ·clear h
  go_enter Tryz.func92,Tryz.ntmps92
  go_wp2_with fail
  go_ret
  exact⟨rfl,HZ.out⟩
 ·have h1:decide (k<0)=false:=decide_eq_false h0
  have h2:9<k:=by omega
  clear h h0
  go_enter Tryz.func92,Tryz.ntmps92
  go_wp2_with fail
  go_ret
  exact⟨rfl,HZ.out⟩
theorem pos_beq (m:Nat)(b:Bool):(decide (0<m) == b)=(bif b then !(m == 0) else m == 0):=by
 cases m<;>cases b<;>rfl
theorem rstmt_any {nm:ByteArray→Bool}(hN:∀s w,s.size≤maxLen→BoolAll 47 #[.string s] (nm s) w):∀(n:Nat) (s:ST) (cs:List Value) (w:World),(stmtSh n).rel (Pak.Lo w.heap.size) w cs s→
 Calls Tryz.prog 92 #[.agg cs.toArray] w (SoundEnd (snS nm n s) w)
 | 0,_,_,_,h=>h.elim
 | n+1,s,cs,w,h=>by
   have IH:=fun x cs W hr=>rstmt_any hN n x cs W hr
   obtain⟨ce,cv,cc,ca,a1,a2,a3,a4,a5,c1,c2,c3,c4,c5,H⟩:=stmt_is h
   have q0:=H.kind
   have hn0:∃n',n=n'+1:=by
    cases n with
    | zero=>exact H.ra.elim
    | succ n'=>exact⟨n',rfl⟩
   have hna:noA nm n s.p.a=noA2 s.p.a:=by
    obtain⟨n',rfl⟩:=hn0
    exact noA_eq nm n' s.p.a
   have x4:BoolAll 90 #[.agg ce.toArray] (snE nm n s.p.e) w:=fun W hW=>rexpr_any hN n s.p.e ce W (rel_low H.re hW)
   have x5:BoolAll 89 #[.agg ce.toArray] (!noE s.p.e) w:=fun W hW=>hasE_any n s.p.e ce W (rel_low H.re hW)
   have x6:BoolAll 90 #[.agg cv.toArray] (snE nm n s.p.v) w:=fun W hW=>rexpr_any hN n s.p.v cv W (rel_low H.rv hW)
   have x7:BoolAll 89 #[.agg cv.toArray] (!noE s.p.v) w:=fun W hW=>hasE_any n s.p.v cv W (rel_low H.rv hW)
   have x8:BoolAll 91 #[.agg cc.toArray] (snC nm n s.p.c) w:=fun W hW=>rcond_any hN n s.p.c cc W (rel_low H.rc hW)
   have x9:BoolAll 88 #[.agg cc.toArray] (!noC s.p.c) w:=fun W hW=>hasC_any n s.p.c cc W (rel_low H.rc hW)
   have x10:BoolAll 49 #[.agg ca.toArray] (snA nm n s.p.a) w:=fun W hW=>rassn_any hN n s.p.a ca W (rel_low H.ra hW)
   have x11:BoolAll 125 #[.agg ca.toArray] (!noA2 s.p.a) w:=fun W hW=>hasA_any n s.p.a ca W (rel_low H.ra hW)
   have x12:=rexprs_any hN n a1 c1 s.p.args w H.rargs
   have x13:=rexprs_any hN n a2 c2 s.p.ghosts w H.rghosts
   have x14:BoolAll 48 #[.slice a3 s.p.fields.length c3] (s.p.fields.all nm) w:=fun W hW=>rnames_all nm a3 _ c3 s.p.fields W rfl (H.rfields.below hW hW.size) (fun x V hx hz hb=>hN x V hz V (Below.refl _ _))
   have x15:BoolAll 50 #[.slice a4 s.body.length c4] (s.body.all (snS nm n)) w:=fun W hW=>rstmts_all n (snS nm n) a4 _ c4 s.body W rfl (H.rbody.below hW hW.size) (fun cs x V hx hb hr=>IH x cs V hr)
   have x16:BoolAll 50 #[.slice a5 s.els.length c5] (s.els.all (snS nm n)) w:=fun W hW=>rstmts_all n (snS nm n) a5 _ c5 s.els W rfl (H.rels.below hW hW.size) (fun cs x V hx hb hr=>IH x cs V hr)
   unfold snS
   by_cases hk:0≤s.p.kind∧s.p.kind<10
   ·rw[if_pos hk]
    rw[hna]
    unfold nmS
    rw[pos_beq]
    have hkk:s.p.kind=0∨s.p.kind=1∨s.p.kind=2∨s.p.kind=3∨s.p.kind=4∨s.p.kind=5∨s.p.kind=6∨s.p.kind=7∨s.p.kind=8∨s.p.kind=9:=by omega
    rcases hkk with hkk | hkk | hkk | hkk | hkk | hkk | hkk | hkk | hkk | hkk
    ·rw[hkk]at q0⊢
     have:=rstmt_0 cs ce cv cc ca s.p.name s.p.field s.p.callee a1 a2 a3 a4 a5 _ _ _ _ _ c1 c2 c3 c4 c5 _ _ _ _ _ _ _ _ _ _ _ _ _ _ _ _ w q0 H.name H.field H.callee H.args H.ghosts H.fields H.body H.els H.pe H.pv H.pc H.pa (((exprSh n).len H.re).trans (exprSh_k n)) (((exprSh n).len H.rv).trans (exprSh_k n)) (((condSh n).len H.rc).trans (condSh_k n)) (((assnSh n).len H.ra).trans (assnSh_k n))
      (hN _ w H.nums.2.1) (hN _ w H.nums.2.2.1) (hN _ w H.nums.2.2.2) x4 x5 x6 x7 x8 x9 x10 x11 x12 x13 x14 x15 x16
     refine this.mono ?_
     rintro r w' ⟨rfl,hb⟩
     refine⟨congrArg (fun b=>Ending.returned (.bool b)) ?_,hb⟩
     rw[show((0:Int)).toNat=0 from rfl,show hasB 0 1=false from by decide,show hasB 0 2=false from by decide,show hasB 0 4=false from by decide,show hasB 0 8=false from by decide,show hasB 0 16=false from by decide,show hasB 0 32=false from by decide,show hasB 0 64=false from by decide,show hasB 0 128=false from by decide,show hasB 0 256=false from by decide,show hasB 0 512=false from by decide]
     rw[Bool.eq_iff_iff]
     simp only[cond_true,cond_false,Bool.not_not,Bool.and_eq_true,Bool.or_eq_true,show((0:Nat) == 9)=false from rfl]
     constructor<;>(intro h;simp_all)
    ·rw[hkk]at q0⊢
     have:=rstmt_1 cs ce cv cc ca s.p.name s.p.field s.p.callee a1 a2 a3 a4 a5 _ _ _ _ _ c1 c2 c3 c4 c5 _ _ _ _ _ _ _ _ _ _ _ _ _ _ _ _ w q0 H.name H.field H.callee H.args H.ghosts H.fields H.body H.els H.pe H.pv H.pc H.pa (((exprSh n).len H.re).trans (exprSh_k n)) (((exprSh n).len H.rv).trans (exprSh_k n)) (((condSh n).len H.rc).trans (condSh_k n)) (((assnSh n).len H.ra).trans (assnSh_k n))
      (hN _ w H.nums.2.1) (hN _ w H.nums.2.2.1) (hN _ w H.nums.2.2.2) x4 x5 x6 x7 x8 x9 x10 x11 x12 x13 x14 x15 x16
     refine this.mono ?_
     rintro r w' ⟨rfl,hb⟩
     refine⟨congrArg (fun b=>Ending.returned (.bool b)) ?_,hb⟩
     rw[show((1:Int)).toNat=1 from rfl,show hasB 1 1=true from by decide,show hasB 1 2=false from by decide,show hasB 1 4=false from by decide,show hasB 1 8=true from by decide,show hasB 1 16=false from by decide,show hasB 1 32=false from by decide,show hasB 1 64=false from by decide,show hasB 1 128=false from by decide,show hasB 1 256=false from by decide,show hasB 1 512=false from by decide]
     rw[Bool.eq_iff_iff]
     simp only[cond_true,cond_false,Bool.not_not,Bool.and_eq_true,Bool.or_eq_true,show((1:Nat) == 9)=false from rfl]
     constructor<;>(intro h;simp_all)
    ·rw[hkk]at q0⊢
     have:=rstmt_2 cs ce cv cc ca s.p.name s.p.field s.p.callee a1 a2 a3 a4 a5 _ _ _ _ _ c1 c2 c3 c4 c5 _ _ _ _ _ _ _ _ _ _ _ _ _ _ _ _ w q0 H.name H.field H.callee H.args H.ghosts H.fields H.body H.els H.pe H.pv H.pc H.pa (((exprSh n).len H.re).trans (exprSh_k n)) (((exprSh n).len H.rv).trans (exprSh_k n)) (((condSh n).len H.rc).trans (condSh_k n)) (((assnSh n).len H.ra).trans (assnSh_k n))
      (hN _ w H.nums.2.1) (hN _ w H.nums.2.2.1) (hN _ w H.nums.2.2.2) x4 x5 x6 x7 x8 x9 x10 x11 x12 x13 x14 x15 x16
     refine this.mono ?_
     rintro r w' ⟨rfl,hb⟩
     refine⟨congrArg (fun b=>Ending.returned (.bool b)) ?_,hb⟩
     rw[show((2:Int)).toNat=2 from rfl,show hasB 2 1=true from by decide,show hasB 2 2=true from by decide,show hasB 2 4=false from by decide,show hasB 2 8=true from by decide,show hasB 2 16=false from by decide,show hasB 2 32=false from by decide,show hasB 2 64=false from by decide,show hasB 2 128=false from by decide,show hasB 2 256=false from by decide,show hasB 2 512=false from by decide]
     rw[Bool.eq_iff_iff]
     simp only[cond_true,cond_false,Bool.not_not,Bool.and_eq_true,Bool.or_eq_true,show((2:Nat) == 9)=false from rfl]
     constructor<;>(intro h;simp_all)
    ·rw[hkk]at q0⊢
     have:=rstmt_3 cs ce cv cc ca s.p.name s.p.field s.p.callee a1 a2 a3 a4 a5 _ _ _ _ _ c1 c2 c3 c4 c5 _ _ _ _ _ _ _ _ _ _ _ _ _ _ _ _ w q0 H.name H.field H.callee H.args H.ghosts H.fields H.body H.els H.pe H.pv H.pc H.pa (((exprSh n).len H.re).trans (exprSh_k n)) (((exprSh n).len H.rv).trans (exprSh_k n)) (((condSh n).len H.rc).trans (condSh_k n)) (((assnSh n).len H.ra).trans (assnSh_k n))
      (hN _ w H.nums.2.1) (hN _ w H.nums.2.2.1) (hN _ w H.nums.2.2.2) x4 x5 x6 x7 x8 x9 x10 x11 x12 x13 x14 x15 x16
     refine this.mono ?_
     rintro r w' ⟨rfl,hb⟩
     refine⟨congrArg (fun b=>Ending.returned (.bool b)) ?_,hb⟩
     rw[show((3:Int)).toNat=3 from rfl,show hasB 3 1=false from by decide,show hasB 3 2=true from by decide,show hasB 3 4=false from by decide,show hasB 3 8=true from by decide,show hasB 3 16=true from by decide,show hasB 3 32=false from by decide,show hasB 3 64=false from by decide,show hasB 3 128=false from by decide,show hasB 3 256=false from by decide,show hasB 3 512=false from by decide]
     rw[Bool.eq_iff_iff]
     simp only[cond_true,cond_false,Bool.not_not,Bool.and_eq_true,Bool.or_eq_true,show((3:Nat) == 9)=false from rfl]
     constructor<;>(intro h;simp_all)
    ·rw[hkk]at q0⊢
     have:=rstmt_4 cs ce cv cc ca s.p.name s.p.field s.p.callee a1 a2 a3 a4 a5 _ _ _ _ _ c1 c2 c3 c4 c5 _ _ _ _ _ _ _ _ _ _ _ _ _ _ _ _ w q0 H.name H.field H.callee H.args H.ghosts H.fields H.body H.els H.pe H.pv H.pc H.pa (((exprSh n).len H.re).trans (exprSh_k n)) (((exprSh n).len H.rv).trans (exprSh_k n)) (((condSh n).len H.rc).trans (condSh_k n)) (((assnSh n).len H.ra).trans (assnSh_k n))
      (hN _ w H.nums.2.1) (hN _ w H.nums.2.2.1) (hN _ w H.nums.2.2.2) x4 x5 x6 x7 x8 x9 x10 x11 x12 x13 x14 x15 x16
     refine this.mono ?_
     rintro r w' ⟨rfl,hb⟩
     refine⟨congrArg (fun b=>Ending.returned (.bool b)) ?_,hb⟩
     rw[show((4:Int)).toNat=4 from rfl,show hasB 4 1=true from by decide,show hasB 4 2=false from by decide,show hasB 4 4=false from by decide,show hasB 4 8=false from by decide,show hasB 4 16=false from by decide,show hasB 4 32=false from by decide,show hasB 4 64=false from by decide,show hasB 4 128=true from by decide,show hasB 4 256=false from by decide,show hasB 4 512=false from by decide]
     rw[Bool.eq_iff_iff]
     simp only[cond_true,cond_false,Bool.not_not,Bool.and_eq_true,Bool.or_eq_true,show((4:Nat) == 9)=false from rfl]
     constructor<;>(intro h;simp_all)
    ·rw[hkk]at q0⊢
     have:=rstmt_5 cs ce cv cc ca s.p.name s.p.field s.p.callee a1 a2 a3 a4 a5 _ _ _ _ _ c1 c2 c3 c4 c5 _ _ _ _ _ _ _ _ _ _ _ _ _ _ _ _ w q0 H.name H.field H.callee H.args H.ghosts H.fields H.body H.els H.pe H.pv H.pc H.pa (((exprSh n).len H.re).trans (exprSh_k n)) (((exprSh n).len H.rv).trans (exprSh_k n)) (((condSh n).len H.rc).trans (condSh_k n)) (((assnSh n).len H.ra).trans (assnSh_k n))
      (hN _ w H.nums.2.1) (hN _ w H.nums.2.2.1) (hN _ w H.nums.2.2.2) x4 x5 x6 x7 x8 x9 x10 x11 x12 x13 x14 x15 x16
     refine this.mono ?_
     rintro r w' ⟨rfl,hb⟩
     refine⟨congrArg (fun b=>Ending.returned (.bool b)) ?_,hb⟩
     rw[show((5:Int)).toNat=5 from rfl,show hasB 5 1=false from by decide,show hasB 5 2=true from by decide,show hasB 5 4=false from by decide,show hasB 5 8=true from by decide,show hasB 5 16=false from by decide,show hasB 5 32=false from by decide,show hasB 5 64=false from by decide,show hasB 5 128=false from by decide,show hasB 5 256=false from by decide,show hasB 5 512=false from by decide]
     rw[Bool.eq_iff_iff]
     simp only[cond_true,cond_false,Bool.not_not,Bool.and_eq_true,Bool.or_eq_true,show((5:Nat) == 9)=false from rfl]
     constructor<;>(intro h;simp_all)
    ·rw[hkk]at q0⊢
     have:=rstmt_6 cs ce cv cc ca s.p.name s.p.field s.p.callee a1 a2 a3 a4 a5 _ _ _ _ _ c1 c2 c3 c4 c5 _ _ _ _ _ _ _ _ _ _ _ _ _ _ _ _ w q0 H.name H.field H.callee H.args H.ghosts H.fields H.body H.els H.pe H.pv H.pc H.pa (((exprSh n).len H.re).trans (exprSh_k n)) (((exprSh n).len H.rv).trans (exprSh_k n)) (((condSh n).len H.rc).trans (condSh_k n)) (((assnSh n).len H.ra).trans (assnSh_k n))
      (hN _ w H.nums.2.1) (hN _ w H.nums.2.2.1) (hN _ w H.nums.2.2.2) x4 x5 x6 x7 x8 x9 x10 x11 x12 x13 x14 x15 x16
     refine this.mono ?_
     rintro r w' ⟨rfl,hb⟩
     refine⟨congrArg (fun b=>Ending.returned (.bool b)) ?_,hb⟩
     rw[show((6:Int)).toNat=6 from rfl,show hasB 6 1=false from by decide,show hasB 6 2=false from by decide,show hasB 6 4=false from by decide,show hasB 6 8=false from by decide,show hasB 6 16=false from by decide,show hasB 6 32=true from by decide,show hasB 6 64=false from by decide,show hasB 6 128=false from by decide,show hasB 6 256=true from by decide,show hasB 6 512=true from by decide]
     rw[Bool.eq_iff_iff]
     simp only[cond_true,cond_false,Bool.not_not,Bool.and_eq_true,Bool.or_eq_true,show((6:Nat) == 9)=false from rfl]
     constructor<;>(intro h;simp_all)
    ·rw[hkk]at q0⊢
     have:=rstmt_7 cs ce cv cc ca s.p.name s.p.field s.p.callee a1 a2 a3 a4 a5 _ _ _ _ _ c1 c2 c3 c4 c5 _ _ _ _ _ _ _ _ _ _ _ _ _ _ _ _ w q0 H.name H.field H.callee H.args H.ghosts H.fields H.body H.els H.pe H.pv H.pc H.pa (((exprSh n).len H.re).trans (exprSh_k n)) (((exprSh n).len H.rv).trans (exprSh_k n)) (((condSh n).len H.rc).trans (condSh_k n)) (((assnSh n).len H.ra).trans (assnSh_k n))
      (hN _ w H.nums.2.1) (hN _ w H.nums.2.2.1) (hN _ w H.nums.2.2.2) x4 x5 x6 x7 x8 x9 x10 x11 x12 x13 x14 x15 x16
     refine this.mono ?_
     rintro r w' ⟨rfl,hb⟩
     refine⟨congrArg (fun b=>Ending.returned (.bool b)) ?_,hb⟩
     rw[show((7:Int)).toNat=7 from rfl,show hasB 7 1=false from by decide,show hasB 7 2=false from by decide,show hasB 7 4=false from by decide,show hasB 7 8=false from by decide,show hasB 7 16=false from by decide,show hasB 7 32=true from by decide,show hasB 7 64=true from by decide,show hasB 7 128=false from by decide,show hasB 7 256=true from by decide,show hasB 7 512=false from by decide]
     rw[Bool.eq_iff_iff]
     simp only[cond_true,cond_false,Bool.not_not,Bool.and_eq_true,Bool.or_eq_true,show((7:Nat) == 9)=false from rfl]
     constructor<;>(intro h;simp_all)
    ·rw[hkk]at q0⊢
     have:=rstmt_8 cs ce cv cc ca s.p.name s.p.field s.p.callee a1 a2 a3 a4 a5 _ _ _ _ _ c1 c2 c3 c4 c5 _ _ _ _ _ _ _ _ _ _ _ _ _ _ _ _ w q0 H.name H.field H.callee H.args H.ghosts H.fields H.body H.els H.pe H.pv H.pc H.pa (((exprSh n).len H.re).trans (exprSh_k n)) (((exprSh n).len H.rv).trans (exprSh_k n)) (((condSh n).len H.rc).trans (condSh_k n)) (((assnSh n).len H.ra).trans (assnSh_k n))
      (hN _ w H.nums.2.1) (hN _ w H.nums.2.2.1) (hN _ w H.nums.2.2.2) x4 x5 x6 x7 x8 x9 x10 x11 x12 x13 x14 x15 x16
     refine this.mono ?_
     rintro r w' ⟨rfl,hb⟩
     refine⟨congrArg (fun b=>Ending.returned (.bool b)) ?_,hb⟩
     rw[show((8:Int)).toNat=8 from rfl,show hasB 8 1=false from by decide,show hasB 8 2=false from by decide,show hasB 8 4=false from by decide,show hasB 8 8=false from by decide,show hasB 8 16=false from by decide,show hasB 8 32=true from by decide,show hasB 8 64=false from by decide,show hasB 8 128=false from by decide,show hasB 8 256=false from by decide,show hasB 8 512=false from by decide]
     rw[Bool.eq_iff_iff]
     simp only[cond_true,cond_false,Bool.not_not,Bool.and_eq_true,Bool.or_eq_true,show((8:Nat) == 9)=false from rfl]
     constructor<;>(intro h;simp_all)
    ·rw[hkk]at q0⊢
     have:=rstmt_9 cs ce cv cc ca s.p.name s.p.field s.p.callee a1 a2 a3 a4 a5 _ _ _ _ _ c1 c2 c3 c4 c5 _ _ _ _ _ _ _ _ _ _ _ _ _ _ _ _ w q0 H.name H.field H.callee H.args H.ghosts H.fields H.body H.els H.pe H.pv H.pc H.pa (((exprSh n).len H.re).trans (exprSh_k n)) (((exprSh n).len H.rv).trans (exprSh_k n)) (((condSh n).len H.rc).trans (condSh_k n)) (((assnSh n).len H.ra).trans (assnSh_k n))
      (hN _ w H.nums.2.1) (hN _ w H.nums.2.2.1) (hN _ w H.nums.2.2.2) x4 x5 x6 x7 x8 x9 x10 x11 x12 x13 x14 x15 x16
     refine this.mono ?_
     rintro r w' ⟨rfl,hb⟩
     refine⟨congrArg (fun b=>Ending.returned (.bool b)) ?_,hb⟩
     rw[show((9:Int)).toNat=9 from rfl,show hasB 9 1=false from by decide,show hasB 9 2=false from by decide,show hasB 9 4=true from by decide,show hasB 9 8=false from by decide,show hasB 9 16=false from by decide,show hasB 9 32=false from by decide,show hasB 9 64=false from by decide,show hasB 9 128=false from by decide,show hasB 9 256=false from by decide,show hasB 9 512=false from by decide]
     rw[Bool.eq_iff_iff]
     simp only[cond_true,cond_false,Bool.not_not,Bool.and_eq_true,Bool.or_eq_true,show((9:Nat) == 9)=true from rfl]
     constructor<;>(intro h;simp_all)
   ·rw[if_neg hk]
    exact rstmt_x _ cs w H.kind hk
theorem rstmts_any {nm:ByteArray→Bool}(hN:∀s w,s.size≤maxLen→BoolAll 47 #[.string s] (nm s) w)(n:Nat)(a:Option Addr)(cap:Nat)(xs:List ST)(w:World)(hs:Pak.Sits (stmtSh n) (Pak.Lo w.heap.size) w a xs):
 BoolAll 50 #[.slice a xs.length cap] (xs.all (snS nm n)) w:=fun W hW=>
 rstmts_all n (snS nm n) a xs.length cap xs W rfl (hs.below hW hW.size) (fun cs x V hx hb hr=>rstmt_any hN n x cs V hr)
end
section
open Go.RowKit
def IntIn (k:Int)(w:World)(r:Ending)(w':World):Prop:=r= .returned (.int .i64 k)∧Below w.heap.size w w'
theorem gtD (d:Nat)(z:Bool)(h:100<d↔z=true):decide (100<d)=z∧decide ((100:Int)<(d:Int))=z:=by
 have h2:((100:Int)<(d:Int))↔z=true:=by rw[←h];omega
 cases z with
 | true=>exact⟨decide_eq_true (h.2 rfl),decide_eq_true (h2.2 rfl)⟩
 | false=>exact⟨decide_eq_false (fun e=>Bool.noConfusion (h.1 e)),decide_eq_false (fun e=>Bool.noConfusion (h2.1 e))⟩
theorem rcheck_prog {nm:ByteArray→Bool}(hN:∀s w,s.size≤maxLen→BoolAll 47 #[.string s] (nm s) w)(n:Nat)(qs:List QT)(a:Option Addr)(m cap:Nat)(w:World)(hm:qs.length=m)(hs:Pak.Sits (procSh n) (Pak.Lo w.heap.size) w a qs):
 Calls Tryz.prog 16 #[.agg #[.slice a m cap]] w (IntIn (chkQ nm n qs) w):=by
 have HA0:Hid (Below w.heap.size w (w.alloc (.cells #[.slice a m cap] 24))):=box_low
 have HS:=Lib.hid hs
 have HM:=Lib.hid hm
 have HNM:=Lib.hid hN
 have hmm:m≤9223372036854775807:=by rw[←hm];exact hs.1
 have HD1:Hid (∀j,(h:j<qs.length)→dpQ qs[j]=true→chkQ nm n qs=4):=fun j h e=>by unfold chkQ;rw[any_hit h e];rfl
 have HD0:Hid ((∀j,(h:j<qs.length)→dpQ qs[j]=false)→∀j,(h:j<qs.length)→snQ nm n qs[j]=false→chkQ nm n qs=5):=fun h0 j h e=>by unfold chkQ;rw[any_miss h0,all_hit h e];rfl
 have HOK:Hid ((∀j,(h:j<qs.length)→dpQ qs[j]=false)→(∀j,(h:j<qs.length)→snQ nm n qs[j]=true)→chkQ nm n qs=0):=fun h0 h=>by unfold chkQ;rw[any_miss h0,all_miss h];rfl
 have HCL:Hid (∀W,Below (w.alloc (.cells #[.slice a m cap] 24)).heap.size (w.alloc (.cells #[.slice a m cap] 24)) W→W.cell? ⟨w.heap.size,0,none⟩=some (.slice a m cap)):=fun W hb=>box_at (cs:=[.slice a m cap]) rfl hb
 clear hs hm hN
 generalize chkQ nm n qs=res at*
 go_enter Tryz.func16,Tryz.ntmps16
 go_wp2_with fail
 go_loopw [3] (fun i wr=>∃j:Nat,j≤m∧i= .int .i64 j∧Hid (∀q,(h:q<qs.length)→q<j→dpQ qs[q]=false)∧Hid (Below (w.alloc (.cells #[.slice a m cap] 24)).heap.size (w.alloc (.cells #[.slice a m cap] 24)) wr)) (fun i _=>m - (intOf i).toNat)
 case atStart=>exact⟨0,Nat.zero_le _,rfl,fun q _ h=>absurd h (Nat.not_lt_zero _),Below.refl _ _⟩
 case round=>
  obtain⟨j,hj,rfl,hno,hb⟩:=hrel
  obtain⟨wo,rfl⟩:∃wo:World,wo=wr:=⟨_,rfl⟩
  have HWO:=Lib.hid (HA0.out.trans (hb.out.mono HA0.out.size))
  have k0:=HCL.out _ hb.out
  by_cases hlt:j<m
  ·have hlx:j<qs.length:=by rw[HM.out];exact hlt
   have hji:(j:Int)<(m:Int):=by omega
   obtain⟨b,off,cs,rfl,hbl,hc,hr⟩:=(HS.out.below HWO.out HWO.out.size).2 j hlx
   have hlen:=(procSh n).len hr
   have hone:=(procSh n).one hr
   rw[procSh_k]at hlen hc
   have HC0:Hid (∀i v,cs[i]? =some v→wo.cell? ((⟨b,off+j*34,none⟩:Addr).add i)=some v):=fun i v hv=>by
    rw[show(⟨b,off+j*34,none⟩:Addr).add i=⟨b,off+j*34+i,none⟩ by unfold Addr.add;split<;>simp_all]
    exact hc i v hv
   have hA:Below wo.heap.size wo (wo.alloc (.cells cs.toArray 49)):=box_low
   obtain⟨ca,cb,a1,a2,a3,c1,c2,c3,H⟩:=proc_is hr
   have P1:=Lib.hid (fun W (hb:Below (wo.alloc (.cells cs.toArray 49)).heap.size (wo.alloc (.cells cs.toArray 49)) W)=>box_part H.pre hb)
   have P2:=Lib.hid (fun W (hb:Below (wo.alloc (.cells cs.toArray 49)).heap.size (wo.alloc (.cells cs.toArray 49)) W)=>box_part H.post hb)
   have P3:=Lib.hid (fun W (hb:Below (wo.alloc (.cells cs.toArray 49)).heap.size (wo.alloc (.cells cs.toArray 49)) W)=>box_at H.body hb)
   have P4:=Lib.hid (fun W (hb:Below (wo.alloc (.cells cs.toArray 49)).heap.size (wo.alloc (.cells cs.toArray 49)) W)=>box_at H.name hb)
   have P5:=Lib.hid (fun W (hb:Below (wo.alloc (.cells cs.toArray 49)).heap.size (wo.alloc (.cells cs.toArray 49)) W)=>box_at H.params hb)
   have P6:=Lib.hid (fun W (hb:Below (wo.alloc (.cells cs.toArray 49)).heap.size (wo.alloc (.cells cs.toArray 49)) W)=>box_at H.ghosts hb)
   have L1:=Lib.hid (((assnSh n).len H.rpre).trans (assnSh_k n))
   have L2:=Lib.hid (((assnSh n).len H.rpost).trans (assnSh_k n))
   have X1:Hid (ValAll 45 #[.agg ca.toArray,.int .i64 100] (.int .i64 (dA 100 qs[j].pre:Nat)) (wo.alloc (.cells cs.toArray 49))):=Lib.hid (fun W hW=>rdepthA_any n 100 qs[j].pre ca W (by decide) (rel_low (rel_low H.rpre hA) hW))
   have X2:Hid (ValAll 45 #[.agg cb.toArray,.int .i64 100] (.int .i64 (dA 100 qs[j].post:Nat)) (wo.alloc (.cells cs.toArray 49))):=Lib.hid (fun W hW=>rdepthA_any n 100 qs[j].post cb W (by decide) (rel_low (rel_low H.rpost hA) hW))
   have HSB:Hid (Pak.Sits (stmtSh n) (Pak.Lo (wo.alloc (.cells cs.toArray 49)).heap.size) (wo.alloc (.cells cs.toArray 49)) a3 qs[j].body):=Lib.hid (H.rbody.below hA hA.size)
   have G1:=Lib.hid (gtD _ _ (dA_gt 100 qs[j].pre))
   have G2:=Lib.hid (gtD _ _ (dA_gt 100 qs[j].post))
   have HL:=Lib.hid hlen
   have HO:=Lib.hid hone
   have HH:Hid (dpA 100 qs[j].pre=true∨dpA 100 qs[j].post=true∨qs[j].body.any (dpS 100)=true→res=4):=fun h=>HD1.out j hlx (by unfold dpQ;rcases h with h | h | h<;>simp[h])
   have HN:Hid (dpA 100 qs[j].pre=false→dpA 100 qs[j].post=false→qs[j].body.any (dpS 100)=false→∀q,(h:q<qs.length)→q<j+1→dpQ qs[q]=false):=fun h1 h2 h3 q hq hlq=>by
    by_cases e:q=j
    ·subst e;unfold dpQ;rw[h1,h2,h3];rfl
    ·exact hno.out q hq (by omega)
   have HB:=Lib.hid (hb.out.trans (hA.mono hb.out.size))
   have HB0:Hid (Below (wo.alloc (.cells cs.toArray 49)).heap.size (wo.alloc (.cells cs.toArray 49)) (wo.alloc (.cells cs.toArray 49))):=Below.refl _ _
   clear hc hr hlen hone H hA P4 P5 P6
   generalize dpA 100 qs[j].pre=z1 at*
   generalize dpA 100 qs[j].post=z2 at*
   generalize dA 100 qs[j].pre=y1 at*
   generalize dA 100 qs[j].post=y2 at*
   generalize qs[j].body=bd at*
   obtain⟨mb,hmb⟩:∃mb,bd.length=mb:=⟨_,rfl⟩
   have hmbb:mb≤9223372036854775807:=by rw[←hmb];exact HSB.out.1
   rw[hmb]at P3
   have HMB:=Lib.hid hmb
   clear hmb
   go_wp2_with (first | (refine wpList_store_new (by kernel_rfl) 49 _ _ rfl _ rfl cs rfl (by rw[HL.out];kernel_rfl) (by rw[HL.out];rfl) HO.out ?_) | (refine wpList_load_w (by kernel_rfl) 49 _ rfl ⟨b,off+j*34,none⟩ rfl cs _ HC0.out Tryz.underlying49 rfl (by rw[HL.out];kernel_rfl) ?_) | (refine wpList_load_w (by kernel_rfl) 44 _ rfl ⟨wo.heap.size,3,none⟩ rfl ca _ (P1.out _ HB0.out) Tryz.underlying44 rfl (by rw[L1.out];kernel_rfl) ?_))
   refine(X1.out.at HB0.out).mono ?_
   rintro r w1 ⟨rfl,hb1⟩
   have B1:=Lib.hid hb1
   have HB1:=Lib.hid (HB.out.trans (hb1.mono HB.out.size))
   clear hb1 X1 P1 HC0 k0
   obtain⟨g1,g1i⟩:=G1.out
   cases z1 with
   | true=>
     obtain rfl:=HH.out (.inl rfl)
     have HZ:=Lib.hid (HA0.out.trans (HB1.out.mono HA0.out.size))
     clear HH HN X2 P2 P3
     go_wp2_with fail
     go_ret
     exact⟨rfl,HZ.out⟩
   | false=>
   go_wp2_with (refine wpList_load_w (by kernel_rfl) 44 _ rfl ⟨wo.heap.size,18,none⟩ rfl cb _ (P2.out _ B1.out) Tryz.underlying44 rfl (by rw[L2.out];kernel_rfl) ?_)
   refine(X2.out.at B1.out).mono ?_
   rintro r w2 ⟨rfl,hb1⟩
   have B2:=Lib.hid (B1.out.trans (hb1.mono B1.out.size))
   have HB2:=Lib.hid (HB1.out.trans (hb1.mono HB1.out.size))
   clear hb1 X2 P2 g1 g1i
   obtain⟨g1,g1i⟩:=G2.out
   cases z2 with
   | true=>
     obtain rfl:=HH.out (.inr (.inl rfl))
     have HZ:=Lib.hid (HA0.out.trans (HB2.out.mono HA0.out.size))
     clear HH HN P3
     go_wp2_with fail
     go_ret
     exact⟨rfl,HZ.out⟩
   | false=>
   go_wp2_with fail
   go_loopw [5] (fun i wr=>∃k:Nat,k≤mb∧i= .int .i64 k∧Hid (∀q,(h:q<bd.length)→q<k→dpS 100 bd[q]=false)∧Hid (Below (wo.alloc (.cells cs.toArray 49)).heap.size (wo.alloc (.cells cs.toArray 49)) wr)∧Hid (Below (w.alloc (.cells #[.slice (some ⟨b,off,none⟩) m cap] 24)).heap.size (w.alloc (.cells #[.slice (some ⟨b,off,none⟩) m cap] 24)) wr)) (fun i _=>mb - (intOf i).toNat)
   case atStart=>exact⟨0,Nat.zero_le _,rfl,fun q _ h=>absurd h (Nat.not_lt_zero _),B2,HB2⟩
   case round=>
    obtain⟨k,hk,rfl,hno2,hb2,hb3⟩:=hrel
    obtain⟨wi,rfl⟩:∃wi:World,wi=wr:=⟨_,rfl⟩
    have k3:=P3.out _ hb2.out
    by_cases hlt2:k<mb
    ·have hlx2:k<bd.length:=by rw[HMB.out];exact hlt2
     have hki:(k:Int)<(mb:Int):=by omega
     obtain⟨b2,off2,ct,e2,hbl2,hc2,hr2⟩:=(HSB.out.below hb2.out hb2.out.size).2 k hlx2
     subst e2
     have hlen2:=(stmtSh n).len hr2
     rw[stmtSh_k]at hlen2 hc2
     have HC2:Hid (∀i v,ct[i]? =some v→wi.cell? ((⟨b2,off2+k*35,none⟩:Addr).add i)=some v):=fun i v hv=>by
      rw[show(⟨b2,off2+k*35,none⟩:Addr).add i=⟨b2,off2+k*35+i,none⟩ by unfold Addr.add;split<;>simp_all]
      exact hc2 i v hv
     have HL2:=Lib.hid hlen2
     have X3:Hid (ValAll 46 #[.agg ct.toArray,.int .i64 100] (.int .i64 (dS 100 bd[k]:Nat)) wi):=Lib.hid (fun W hW=>rdepthS_any n 100 bd[k] ct W (by decide) (rel_low hr2 hW))
     have G3:=Lib.hid (gtD _ _ (dS_gt 100 bd[k]))
     have HH3:Hid (dpS 100 bd[k]=true→res=4):=fun h=>HH.out (.inr (.inr (any_hit hlx2 h)))
     have HN3:Hid (dpS 100 bd[k]=false→∀q,(h:q<bd.length)→q<k+1→dpS 100 bd[q]=false):=fun h q hq hlq=>by
      by_cases e:q=k
      ·subst e;exact h
      ·exact hno2.out q hq (by omega)
     clear hc2 hr2 hlen2
     generalize dpS 100 bd[k]=z3 at G3 HH3 HN3
     generalize dS 100 bd[k]=y3 at X3 G3
     go_wp2_with (refine wpList_load_w (by kernel_rfl) 47 _ rfl ⟨b2,off2+k*35,none⟩ rfl ct _ HC2.out Tryz.underlying47 rfl (by rw[HL2.out];kernel_rfl) ?_)
     refine(X3.out.at (Below.refl _ _)).mono ?_
     rintro r w4 ⟨rfl,hb4⟩
     have HB4:=Lib.hid (hb2.out.trans (hb4.mono hb2.out.size))
     have HB5:=Lib.hid (hb3.out.trans (hb4.mono hb3.out.size))
     clear hb4 X3 HC2 k3
     obtain⟨g3,g3i⟩:=G3.out
     cases z3 with
     | true=>
       obtain rfl:=HH3.out rfl
       have HZ:=Lib.hid (HA0.out.trans (HB5.out.mono HA0.out.size))
       clear HH3 HN3
       go_wp2_with fail
       go_ret
       exact⟨rfl,HZ.out⟩
     | false=>
       have HN4:=Lib.hid (HN3.out rfl)
       clear HH3 HN3
       go_wp2_with fail
       go_roundw
       case rel=>exact⟨k+1,by omega,by go_num,HN4,HB4,HB5⟩
       case measure=>simp[intOf];omega
    ·obtain rfl:k=mb:=by omega
     have HN4:=Lib.hid (HN.out (by simp) (by simp) (any_miss (fun q hq=>hno2.out q hq (by rw[HMB.out]at hq;exact hq))))
     clear HH HN
     go_wp2_with fail
     go_roundw
     case rel=>exact⟨j+1,by omega,by go_num,HN4,hb3⟩
     case measure=>simp[intOf];omega
  ·obtain rfl:j=m:=by omega
   have HALL:=Lib.hid (fun q (hq:q<qs.length)=>hno.out q hq (by rw[HM.out]at hq;exact hq))
   have HD5:=Lib.hid (HD0.out HALL.out)
   have HD6:=Lib.hid (HOK.out HALL.out)
   clear HD0 HOK HD1 HALL
   go_wp2_with fail
   go_loopw [6] (fun i wr=>∃k:Nat,k≤j∧i= .int .i64 k∧Hid (∀q,(h:q<qs.length)→q<k→snQ nm n qs[q]=true)∧Hid (Below (w.alloc (.cells #[.slice a j cap] 24)).heap.size (w.alloc (.cells #[.slice a j cap] 24)) wr)) (fun i _=>j - (intOf i).toNat)
   case atStart=>exact⟨0,Nat.zero_le _,rfl,fun q _ h=>absurd h (Nat.not_lt_zero _),hb⟩
   case round=>
    obtain⟨k,hk,rfl,hno2,hb2⟩:=hrel
    obtain⟨wi,rfl⟩:∃wi:World,wi=wr:=⟨_,rfl⟩
    have HWI:=Lib.hid (HA0.out.trans (hb2.out.mono HA0.out.size))
    have k0:=HCL.out _ hb2.out
    by_cases hlt2:k<j
    ·have hlx:k<qs.length:=by rw[HM.out];exact hlt2
     have hji:(k:Int)<(j:Int):=by omega
     obtain⟨b,off,cs,rfl,hbl,hc,hr⟩:=(HS.out.below HWI.out HWI.out.size).2 k hlx
     have hlen:=(procSh n).len hr
     have hone:=(procSh n).one hr
     rw[procSh_k]at hlen hc
     have HC0:Hid (∀i v,cs[i]? =some v→wi.cell? ((⟨b,off+k*34,none⟩:Addr).add i)=some v):=fun i v hv=>by
      rw[show(⟨b,off+k*34,none⟩:Addr).add i=⟨b,off+k*34+i,none⟩ by unfold Addr.add;split<;>simp_all]
      exact hc i v hv
     have hA:Below wi.heap.size wi (wi.alloc (.cells cs.toArray 49)):=box_low
     obtain⟨ca,cb,a1,a2,a3,c1,c2,c3,H⟩:=proc_is hr
     have P1:=Lib.hid (fun W (hb:Below (wi.alloc (.cells cs.toArray 49)).heap.size (wi.alloc (.cells cs.toArray 49)) W)=>box_part H.pre hb)
     have P2:=Lib.hid (fun W (hb:Below (wi.alloc (.cells cs.toArray 49)).heap.size (wi.alloc (.cells cs.toArray 49)) W)=>box_part H.post hb)
     have P3:=Lib.hid (fun W (hb:Below (wi.alloc (.cells cs.toArray 49)).heap.size (wi.alloc (.cells cs.toArray 49)) W)=>box_at H.body hb)
     have P4:=Lib.hid (fun W (hb:Below (wi.alloc (.cells cs.toArray 49)).heap.size (wi.alloc (.cells cs.toArray 49)) W)=>box_at H.name hb)
     have P5:=Lib.hid (fun W (hb:Below (wi.alloc (.cells cs.toArray 49)).heap.size (wi.alloc (.cells cs.toArray 49)) W)=>box_at H.params hb)
     have P6:=Lib.hid (fun W (hb:Below (wi.alloc (.cells cs.toArray 49)).heap.size (wi.alloc (.cells cs.toArray 49)) W)=>box_at H.ghosts hb)
     have L1:=Lib.hid (((assnSh n).len H.rpre).trans (assnSh_k n))
     have L2:=Lib.hid (((assnSh n).len H.rpost).trans (assnSh_k n))
     have X0:Hid (BoolAll 47 #[.string qs[k].name] (nm qs[k].name) (wi.alloc (.cells cs.toArray 49))):=Lib.hid (HNM.out _ _ H.num)
     have X1:Hid (BoolAll 48 #[.slice a1 qs[k].params.length c1] (qs[k].params.all nm) (wi.alloc (.cells cs.toArray 49))):=Lib.hid (fun W hW=>rnames_all nm a1 _ c1 qs[k].params W rfl ((H.rparams.below hA hA.size).below hW hW.size) (fun x V hx hz hb=>HNM.out x V hz V (Below.refl _ _)))
     have X2:Hid (BoolAll 48 #[.slice a2 qs[k].ghosts.length c2] (qs[k].ghosts.all nm) (wi.alloc (.cells cs.toArray 49))):=Lib.hid (fun W hW=>rnames_all nm a2 _ c2 qs[k].ghosts W rfl ((H.rghosts.below hA hA.size).below hW hW.size) (fun x V hx hz hb=>HNM.out x V hz V (Below.refl _ _)))
     have X3:Hid (BoolAll 49 #[.agg ca.toArray] (snA nm n qs[k].pre) (wi.alloc (.cells cs.toArray 49))):=Lib.hid (fun W hW=>rassn_any HNM.out n qs[k].pre ca W (rel_low (rel_low H.rpre hA) hW))
     have X4:Hid (BoolAll 49 #[.agg cb.toArray] (snA nm n qs[k].post) (wi.alloc (.cells cs.toArray 49))):=Lib.hid (fun W hW=>rassn_any HNM.out n qs[k].post cb W (rel_low (rel_low H.rpost hA) hW))
     have X5:Hid (BoolAll 50 #[.slice a3 qs[k].body.length c3] (qs[k].body.all (snS nm n)) (wi.alloc (.cells cs.toArray 49))):=Lib.hid (fun W hW=>rstmts_any HNM.out n a3 c3 qs[k].body _ (H.rbody.below hA hA.size) W hW)
     have HL:=Lib.hid hlen
     have HO:=Lib.hid hone
     have HH:Hid ((nm qs[k].name && qs[k].params.all nm && qs[k].ghosts.all nm && snA nm n qs[k].pre && snA nm n qs[k].post && qs[k].body.all (snS nm n))=false→res=5):=fun h=>HD5.out k hlx h
     have HN:Hid ((nm qs[k].name && qs[k].params.all nm && qs[k].ghosts.all nm && snA nm n qs[k].pre && snA nm n qs[k].post && qs[k].body.all (snS nm n))=true→∀q,(h:q<qs.length)→q<k+1→snQ nm n qs[q]=true):=fun h q hq hlq=>by
      by_cases e:q=k
      ·subst e;exact h
      ·exact hno2.out q hq (by omega)
     have HB:=Lib.hid (hb2.out.trans (hA.mono hb2.out.size))
     have HB0:Hid (Below (wi.alloc (.cells cs.toArray 49)).heap.size (wi.alloc (.cells cs.toArray 49)) (wi.alloc (.cells cs.toArray 49))):=Below.refl _ _
     clear hc hr hlen hone H hA
     generalize qs[k].params.all nm=z1 at X1 HH HN
     generalize qs[k].ghosts.all nm=z2 at X2 HH HN
     generalize snA nm n qs[k].pre=z3 at X3 HH HN
     generalize snA nm n qs[k].post=z4 at X4 HH HN
     generalize qs[k].body.all (snS nm n)=z5 at X5 HH HN
     generalize qs[k].body.length=m3 at X5 P3
     generalize qs[k].params.length=m1 at X1 P5
     generalize qs[k].ghosts.length=m2 at X2 P6
     generalize nm qs[k].name=z0 at X0 HH HN
     generalize qs[k].name=s0 at X0 P4
     have k4:=P4.out _ HB0.out
     go_wp2_with (first | (refine wpList_store_new (by kernel_rfl) 49 _ _ rfl _ rfl cs rfl (by rw[HL.out];kernel_rfl) (by rw[HL.out];rfl) HO.out ?_) | (refine wpList_load_w (by kernel_rfl) 49 _ rfl ⟨b,off+k*34,none⟩ rfl cs _ HC0.out Tryz.underlying49 rfl (by rw[HL.out];kernel_rfl) ?_))
     refine(X0.out.at HB0.out).mono ?_
     rintro r w1 ⟨rfl,hb1⟩
     have B0:=Lib.hid hb1
     have HB1:=Lib.hid (HB.out.trans (hb1.mono HB.out.size))
     clear hb1 k4 HC0 k0
     cases z0 with
     | false=>
       obtain rfl:=HH.out (by simp)
       have HZ:=Lib.hid (HA0.out.trans (HB1.out.mono HA0.out.size))
       clear HH HN
       go_wp2_with fail
       go_ret
       exact⟨rfl,HZ.out⟩
     | true=>
     have k5:=P5.out _ B0.out
     go_wp2_with fail
     refine(X1.out.at B0.out).mono ?_
     rintro r w2 ⟨rfl,hb1⟩
     have B1:=Lib.hid (B0.out.trans (hb1.mono B0.out.size))
     have HB2:=Lib.hid (HB1.out.trans (hb1.mono HB1.out.size))
     clear hb1
     clear k5
     cases z1 with
     | false=>
       obtain rfl:=HH.out (by simp)
       have HZ:=Lib.hid (HA0.out.trans (HB2.out.mono HA0.out.size))
       clear HH HN
       go_wp2_with fail
       go_ret
       exact⟨rfl,HZ.out⟩
     | true=>
     have k6:=P6.out _ B1.out
     go_wp2_with fail
     refine(X2.out.at B1.out).mono ?_
     rintro r w3 ⟨rfl,hb1⟩
     have B2:=Lib.hid (B1.out.trans (hb1.mono B1.out.size))
     have HB3:=Lib.hid (HB2.out.trans (hb1.mono HB2.out.size))
     clear hb1
     clear k6
     cases z2 with
     | false=>
       obtain rfl:=HH.out (by simp)
       have HZ:=Lib.hid (HA0.out.trans (HB3.out.mono HA0.out.size))
       clear HH HN
       go_wp2_with fail
       go_ret
       exact⟨rfl,HZ.out⟩
     | true=>
     go_wp2_with (refine wpList_load_w (by kernel_rfl) 44 _ rfl ⟨wi.heap.size,3,none⟩ rfl ca _ (P1.out _ B2.out) Tryz.underlying44 rfl (by rw[L1.out];kernel_rfl) ?_)
     refine(X3.out.at B2.out).mono ?_
     rintro r w4 ⟨rfl,hb1⟩
     have B3:=Lib.hid (B2.out.trans (hb1.mono B2.out.size))
     have HB4:=Lib.hid (HB3.out.trans (hb1.mono HB3.out.size))
     clear hb1
     cases z3 with
     | false=>
       obtain rfl:=HH.out (by simp)
       have HZ:=Lib.hid (HA0.out.trans (HB4.out.mono HA0.out.size))
       clear HH HN
       go_wp2_with fail
       go_ret
       exact⟨rfl,HZ.out⟩
     | true=>
     go_wp2_with (refine wpList_load_w (by kernel_rfl) 44 _ rfl ⟨wi.heap.size,18,none⟩ rfl cb _ (P2.out _ B3.out) Tryz.underlying44 rfl (by rw[L2.out];kernel_rfl) ?_)
     refine(X4.out.at B3.out).mono ?_
     rintro r w5 ⟨rfl,hb1⟩
     have B4:=Lib.hid (B3.out.trans (hb1.mono B3.out.size))
     have HB5:=Lib.hid (HB4.out.trans (hb1.mono HB4.out.size))
     clear hb1
     cases z4 with
     | false=>
       obtain rfl:=HH.out (by simp)
       have HZ:=Lib.hid (HA0.out.trans (HB5.out.mono HA0.out.size))
       clear HH HN
       go_wp2_with fail
       go_ret
       exact⟨rfl,HZ.out⟩
     | true=>
     have k3:=P3.out _ B4.out
     go_wp2_with fail
     refine(X5.out.at B4.out).mono ?_
     rintro r w6 ⟨rfl,hb1⟩
     have B5:=Lib.hid (B4.out.trans (hb1.mono B4.out.size))
     have HB6:=Lib.hid (HB5.out.trans (hb1.mono HB5.out.size))
     clear hb1
     clear k3
     cases z5 with
     | false=>
       obtain rfl:=HH.out (by simp)
       have HZ:=Lib.hid (HA0.out.trans (HB6.out.mono HA0.out.size))
       clear HH HN
       go_wp2_with fail
       go_ret
       exact⟨rfl,HZ.out⟩
     | true=>
       have HN4:=Lib.hid (HN.out (by simp))
       clear HH HN
       go_wp2_with fail
       go_roundw
       case rel=>exact⟨k+1,by omega,by go_num,HN4,HB6⟩
       case measure=>simp[intOf];omega
    ·obtain rfl:k=j:=by omega
     obtain rfl:=HD6.out (fun q hq=>hno2.out q hq (by rw[HM.out]at hq;exact hq))
     go_wp2_with fail
     go_ret
     exact⟨rfl,HWI.out⟩
end
section
open Go.RowKit
theorem slot_imp {T:Type}{sh sh':Pak.Sh T}{S:Nat→Prop}{w:World}{v:Value}{xs:List T}(hk:sh'.k=sh.k)(h:∀cs x,sh.rel S w cs x→sh'.rel S w cs x)(hs:Pak.Slot sh S w v xs):Pak.Slot sh' S w v xs:=by
 obtain⟨a,cap,e,h1,h2⟩:=hs
 refine⟨a,cap,e,h1,fun i hi=> ?_⟩
 obtain⟨b,off,cs,e,hb,hc,hr⟩:=h2 i hi
 exact⟨b,off,cs,e,hb,by rw[hk];exact hc,h cs _ hr⟩
theorem exprSh_up:∀(n:Nat) {S:Nat→Prop} {w:World} {cs:List Value} {e:ET},(exprSh n).rel S w cs e→(exprSh (n+1)).rel S w cs e
 | 0,_,_,_,_,h=>h.elim
 | n+1,S,w,cs,e,⟨v,h1,h2,h3⟩=>⟨v,h1,h2,slot_imp (by rw[exprSh_k,exprSh_k]) (fun cs x h=>exprSh_up n h) h3⟩
theorem condSh_up:∀(n:Nat) {S:Nat→Prop} {w:World} {cs:List Value} {e:CT},(condSh n).rel S w cs e→(condSh (n+1)).rel S w cs e
 | 0,_,_,_,_,h=>h.elim
 | n+1,S,w,cs,e,⟨u,v,h1,h2,h3,h4⟩=>⟨u,v,h1,h2,slot_imp (by rw[exprSh_k,exprSh_k]) (fun cs x h=>exprSh_up n h) h3,slot_imp (by rw[condSh_k,condSh_k]) (fun cs x h=>condSh_up n h) h4⟩
theorem assnSh_up:∀(n:Nat) {S:Nat→Prop} {w:World} {cs:List Value} {e:AT},(assnSh n).rel S w cs e→(assnSh (n+1)).rel S w cs e
 | 0,_,_,_,_,h=>h.elim
 | n+1,S,w,cs,e,⟨cc,ce,cv,v,h1,h2,h3,h4,h5,h6⟩=>⟨cc,ce,cv,v,h1,h2,condSh_up n h3,exprSh_up n h4,exprSh_up n h5,slot_imp (by rw[assnSh_k,assnSh_k]) (fun cs x h=>assnSh_up n h) h6⟩
def zE:ET:= .mk 0 0 ⟨#[]⟩ []
def zC:CT:= .mk 0 [] []
def zA:AT:= .mk 0 zC zE zE ⟨#[]⟩ 0 []
def zEc:List Value:=[.int .i64 0,.int .i64 0,.string ⟨#[]⟩,.slice none 0 0]
def zCc:List Value:=[.int .i64 0,.slice none 0 0,.slice none 0 0]
def zAc:List Value:=[.int .i64 0,.int .i64 0,.slice none 0 0,.slice none 0 0,.int .i64 0,.int .i64 0,.string ⟨#[]⟩,.slice none 0 0,.int .i64 0,.int .i64 0,.string ⟨#[]⟩,.slice none 0 0,.string ⟨#[]⟩,.int .i64 0,.slice none 0 0]
theorem slot_nil {T:Type}(sh:Pak.Sh T)(S:Nat→Prop)(w:World):Pak.Slot sh S w (.slice none 0 0) []:=⟨none,0,rfl,Pak.Sits.nil _ _ _ _⟩
theorem i64_0:i64 0:=⟨by decide,by decide⟩
theorem zE_rel (n:Nat)(S:Nat→Prop)(w:World):(exprSh (n+1)).rel S w zEc zE:=⟨_,rfl,⟨i64_0,i64_0,Nat.zero_le _⟩,slot_nil _ _ _⟩
theorem zC_rel (n:Nat)(S:Nat→Prop)(w:World):(condSh (n+1)).rel S w zCc zC:=⟨_,_,rfl,i64_0,slot_nil _ _ _,slot_nil _ _ _⟩
theorem zA_rel (n:Nat)(S:Nat→Prop)(w:World):(assnSh (n+2)).rel S w zAc zA:=⟨zCc,zEc,zEc,_,rfl,⟨i64_0,i64_0,Nat.zero_le _⟩,zC_rel n S w,zE_rel n S w,zE_rel n S w,slot_nil _ _ _⟩
theorem sits_block {T:Type}{sh:Pak.Sh T}{S:Nat→Prop}{W:World}{g:Nat}{cs:List Value}{t:TypeId}{x:T}(hg:W.heap[g]? =some (.cells cs.toArray t (0,0)))(hS:S g)(h:sh.rel S W cs x):Pak.Sits sh S W (some ⟨g,0,none⟩) [x]:=
 ⟨show 1≤9223372036854775807 from by decide,fun i hi=>by
   have h0:i=0:=by simpa using hi
   subst h0
   refine⟨g,0,cs,rfl,hS,fun j u hu=> ?_,h⟩
   rw[Nat.zero_mul,Nat.add_zero,Nat.zero_add,cell_of_row _ _ _ _ _ _ hg]
   rw[List.getElem?_toArray];exact hu⟩
def nmB (s:ByteArray):Bool:=nameB s.data.toList
theorem nmLaw:NameLaw nmB Laid:=⟨fun s w hs hL=>name_any s w hs hL,fun h hb=>h.up hb⟩
theorem rnmLaw (s:ByteArray)(w:World)(hs:s.size≤maxLen):BoolAll 47 #[.string s] (nmB s) w:=fun W hW=>rname_any s W hs
end
section
open Go.ChangeShapes Go.WideShapes Go.RowKit Go.Deep
theorem list_ofC {α:Type}(n:Nat)(p:Nat→α→Prop)(h:∀i,i<n→∃m,p i m):∃l:List α,l.length=n∧∀i (hi:i<l.length),p i l[i]:=by
 induction n with
 | zero=>exact⟨[],rfl,fun i hi=>absurd hi (Nat.not_lt_zero i)⟩
 | succ n ih=>
   obtain⟨l,hl,hp⟩:=ih (fun i hi=>h i (by omega))
   obtain⟨m,hm⟩:=h n (by omega)
   refine⟨l ++ [m],by simp[hl],fun i hi=> ?_⟩
   by_cases e:i<l.length
   ·rw[List.getElem_append_left e];exact hp i e
   ·have e2:i=l.length:=by simp at hi;omega
    subst e2
    simp only[List.getElem_concat_length]
    rw[hl];exact hm
section
variable {H:Type} {enc:TypeId×Value→H} {w:World} {base:Nat} {spare:Nat→Bool} {held:Bool}
variable (enc w base spare held) in
def OpnAt (n:Nat){T:Type}(sh:Pak.Sh T)(e:TypeId):Prop:=∀ {cs:List Value} {x:DataW H×List MemPlace},DataW.trod enc Tryz.prog w base spare held n e cs=some x→∃y:T,sh.rel (Pak.Lo w.heap.size) w cs y
theorem open_row_at {T:Type}{sh:Pak.Sh T}{t e:TypeId}{fuel:Nat}(ht:Tryz.prog.underlying t=some (.slice e))(hk:Tryz.prog.cellsOf e=sh.k)(hpos:0<sh.k)(ho:∀n,n+1=fuel→OpnAt enc w base spare held n sh e){c:Value}{x:DataW H×List MemPlace}(h:DataW.trod enc Tryz.prog w base spare held fuel t [c]=some x):
 ∃xs,Pak.Slot sh (Pak.Lo w.heap.size) w c xs:=by
 have hf:∃n,fuel=n+1:=by
  cases fuel with
  | zero=>simp[DataW.trod]at h
  | succ n=>exact⟨n,rfl⟩
 obtain⟨n0,rfl⟩:=hf
 rcases DataW.trod_slice ht h with ⟨h0,_⟩ | ⟨a,len,cap,elems,rest,n,hn,hx,hcs,hb,hl,hm,hlen,hel,hrest⟩
 ·injection h0 with h0
  exact⟨[],none,0,h0,Pak.Sits.nil _ _ _ _⟩
 ·injection hx with hx
  obtain rfl:n0=n:=by omega
  have hp:∀i,i<len→∃y:T,∃cs',(∀j u,cs'[j]? =some u→w.cell? (a.add (i*sh.k+j))=some u)∧sh.rel (Pak.Lo w.heap.size) w cs' y:=fun i hil=>by
   have he:=hel i hil
   rw[List.getElem?_eq_getElem (by omega)]at he
   obtain⟨cs',hc,ht'⟩:=Option.bind_eq_some_iff.1 he
   obtain⟨y,hy⟩:=ho _ rfl ht'
   rw[hk]at hc
   obtain⟨_,hcl,hat⟩:=World.cells?_some hc
   refine⟨y,cs',fun j u hu=> ?_,hy⟩
   obtain⟨hj,rfl⟩:=List.getElem?_eq_some_iff.1 hu
   have:=hat j (by omega)
   rw[←Go.Deep.add_add]
   simpa [List.getElem?_eq_getElem hj]using this
  obtain⟨l,hll,hlp⟩:=list_ofC len _ hp
  obtain⟨b,off,sp⟩:=a
  have h63:maxLen=9223372036854775807:=rfl
  refine⟨l,some ⟨b,off,sp⟩,cap,by rw[hll];exact hx,⟨by omega,fun i hil=> ?_⟩⟩
  obtain⟨cs',h1,h2⟩:=hlp i hil
  have hlen:=sh.len h2
  have hc0:=h1 0 _ (List.getElem?_eq_getElem (by omega))
  have hsp:sp=none:=by
   obtain⟨cs0,h10,h20⟩:=hlp 0 (by omega)
   have hc00:=h10 0 _ (List.getElem?_eq_getElem (by have:=sh.len h20;omega))
   have:=World.cell?_spot hc00
   simpa [Addr.add]using this
  subst hsp
  rw[Go.WideShapes.add_plain]at hc0
  refine⟨b,off,cs',rfl,by simpa using block_lt_of_cell hc0,fun j u hu=> ?_,h2⟩
  have:=h1 j u hu
  rw[Go.WideShapes.add_plain]at this
  rwa [Nat.add_assoc]
end
end
section
open Go.ChangeShapes Go.WideShapes Go.RowKit Go.Deep
theorem i64_wf {x:Int}(h:(Lit.int .i64 x).wf=true):i64 x:=by
 have h2:=h
 unfold Lit.wf at h2
 rw[Bool.and_eq_true,decide_eq_true_eq,decide_eq_true_eq]at h2
 exact h2
section
variable {H:Type} {enc:TypeId×Value→H} {w:World} {base:Nat} {spare:Nat→Bool} {held:Bool}
theorem opnE:∀f,OpnAt enc w base spare held f (exprSh f) 37:=fun f=>by
 induction f using Nat.strongRecOn with
 | ind f IH=>
   intro cs x h
   obtain⟨ys,n,rfl,_,hl,hyl,hf⟩:=DataW.trod_struct Tryz.underlying37 h
   have hk:Tryz.prog.cellsOf 37=4:=by kernel_rfl
   rw[hk]at hl
   match cs,hl with
   | [c0,c1,c2,c3],_=>
     have hy:ys.length=4:=hyl
     have a0:DataW.trod enc Tryz.prog w base spare held n 3 [c0]=ys[0]? :=hf 0 _ rfl
     have a1:DataW.trod enc Tryz.prog w base spare held n 3 [c1]=ys[1]? :=hf 1 _ rfl
     have a2:DataW.trod enc Tryz.prog w base spare held n 9 [c2]=ys[2]? :=hf 2 _ rfl
     have a3:DataW.trod enc Tryz.prog w base spare held n 35 [c3]=ys[3]? :=hf 3 _ rfl
     rw[List.getElem?_eq_getElem (by omega)]at a0 a1 a2 a3
     obtain⟨z0,e0,_,w0⟩:=DataW.trod_int Tryz.underlying3 a0
     obtain⟨z1,e1,_,w1⟩:=DataW.trod_int Tryz.underlying3 a1
     obtain⟨s2,e2,_,w2⟩:=DataW.trod_string Tryz.underlying9 a2
     injection e0 with e0
     injection e1 with e1
     injection e2 with e2
     subst e0 e1 e2
     obtain⟨ks,hks⟩:=open_row_at (sh:=exprSh n) Tryz.underlying35 (by rw[exprSh_k];kernel_rfl) (by rw[exprSh_k];decide) (fun m hm=>by
      intro cs' x' h'
      obtain⟨y,hy'⟩:=IH m (by omega) h'
      rw[←hm]
      exact⟨y,exprSh_up m hy'⟩) a3
     exact⟨.mk z0 z1 s2 ks,_,rfl,⟨i64_wf w0,i64_wf w1,w2⟩,hks⟩
theorem slotE {n:Nat}{c:Value}{x:DataW H×List MemPlace}(h:DataW.trod enc Tryz.prog w base spare held n 35 [c]=some x):∃ks,Pak.Slot (exprSh n) (Pak.Lo w.heap.size) w c ks:=
 open_row_at (sh:=exprSh n) Tryz.underlying35 (by rw[exprSh_k];kernel_rfl) (by rw[exprSh_k];decide) (fun m hm=>by
  intro cs' x' h'
  obtain⟨y,hy'⟩:=opnE m h'
  rw[←hm]
  exact⟨y,exprSh_up m hy'⟩) h
theorem opnC:∀f,OpnAt enc w base spare held f (condSh f) 41:=fun f=>by
 induction f using Nat.strongRecOn with
 | ind f IH=>
   intro cs x h
   obtain⟨ys,n,rfl,_,hl,hyl,hf⟩:=DataW.trod_struct Tryz.underlying41 h
   have hk:Tryz.prog.cellsOf 41=3:=by kernel_rfl
   rw[hk]at hl
   match cs,hl with
   | [c0,c1,c2],_=>
     have hy:ys.length=3:=hyl
     have a0:DataW.trod enc Tryz.prog w base spare held n 3 [c0]=ys[0]? :=hf 0 _ rfl
     have a1:DataW.trod enc Tryz.prog w base spare held n 35 [c1]=ys[1]? :=hf 1 _ rfl
     have a2:DataW.trod enc Tryz.prog w base spare held n 39 [c2]=ys[2]? :=hf 2 _ rfl
     rw[List.getElem?_eq_getElem (by omega)]at a0 a1 a2
     obtain⟨z0,e0,_,w0⟩:=DataW.trod_int Tryz.underlying3 a0
     injection e0 with e0
     subst e0
     obtain⟨es,hes⟩:=slotE a1
     obtain⟨ks,hks⟩:=open_row_at (sh:=condSh n) Tryz.underlying39 (by rw[condSh_k];kernel_rfl) (by rw[condSh_k];decide) (fun m hm=>by
      intro cs' x' h'
      obtain⟨y,hy'⟩:=IH m (by omega) h'
      rw[←hm]
      exact⟨y,condSh_up m hy'⟩) a2
     exact⟨.mk z0 es ks,_,_,rfl,i64_wf w0,hes,hks⟩
theorem opnA:∀f,OpnAt enc w base spare held f (assnSh f) 44:=fun f=>by
 induction f using Nat.strongRecOn with
 | ind f IH=>
   intro cs x h
   obtain⟨ys,n,rfl,_,hl,hyl,hf⟩:=DataW.trod_struct Tryz.underlying44 h
   have hk:Tryz.prog.cellsOf 44=15:=by kernel_rfl
   rw[hk]at hl
   match cs,hl with
   | [c0,c1,c2,c3,c4,c5,c6,c7,c8,c9,c10,c11,c12,c13,c14],_=>
     have hy:ys.length=7:=hyl
     have a0:DataW.trod enc Tryz.prog w base spare held n 3 [c0]=ys[0]? :=hf 0 _ rfl
     have a1:DataW.trod enc Tryz.prog w base spare held n 41 [c1,c2,c3]=ys[1]? :=hf 1 _ rfl
     have a2:DataW.trod enc Tryz.prog w base spare held n 37 [c4,c5,c6,c7]=ys[2]? :=hf 2 _ rfl
     have a3:DataW.trod enc Tryz.prog w base spare held n 37 [c8,c9,c10,c11]=ys[3]? :=hf 3 _ rfl
     have a4:DataW.trod enc Tryz.prog w base spare held n 9 [c12]=ys[4]? :=hf 4 _ rfl
     have a5:DataW.trod enc Tryz.prog w base spare held n 3 [c13]=ys[5]? :=hf 5 _ rfl
     have a6:DataW.trod enc Tryz.prog w base spare held n 42 [c14]=ys[6]? :=hf 6 _ rfl
     rw[List.getElem?_eq_getElem (by omega)]at a0 a1 a2 a3 a4 a5 a6
     obtain⟨z0,e0,_,w0⟩:=DataW.trod_int Tryz.underlying3 a0
     obtain⟨z5,e5,_,w5⟩:=DataW.trod_int Tryz.underlying3 a5
     obtain⟨s4,e4,_,w4⟩:=DataW.trod_string Tryz.underlying9 a4
     injection e0 with e0
     injection e4 with e4
     injection e5 with e5
     subst e0 e4 e5
     obtain⟨yc,hc⟩:=opnC n a1
     obtain⟨ye,he⟩:=opnE n a2
     obtain⟨yv,hv⟩:=opnE n a3
     obtain⟨ks,hks⟩:=open_row_at (sh:=assnSh n) Tryz.underlying42 (by rw[assnSh_k];kernel_rfl) (by rw[assnSh_k];decide) (fun m hm=>by
      intro cs' x' h'
      obtain⟨y,hy'⟩:=IH m (by omega) h'
      rw[←hm]
      exact⟨y,assnSh_up m hy'⟩) a6
     exact⟨.mk z0 yc ye yv s4 z5 ks,_,_,_,_,rfl,⟨i64_wf w0,i64_wf w5,w4⟩,hc,he,hv,hks⟩
end
end
end Go.Proofs.YtfcaclmcnlflfaaGreatDoor
