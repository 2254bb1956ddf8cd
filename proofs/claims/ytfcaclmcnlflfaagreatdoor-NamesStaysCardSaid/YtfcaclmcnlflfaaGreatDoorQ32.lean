/- Parts of a proof. -/
import Derived.Test.YtfcaclmcnlflfaaGreatDoorQ06
import Derived.Test.YtfcaclmcnlflfaaGreatDoorQ30
import Derived.Test.YtfcaclmcnlflfaaGreatDoorQ31
import Derived.Test.YtfcaclmcnlflfaaGreatDoorRows
import Derived.BigQuiet
set_option linter.unusedVariables false
set_option linter.unusedSimpArgs false
set_option maxHeartbeats 60000000
set_option maxRecDepth 100000
namespace Go.Proofs.YtfcaclmcnlflfaaGreatDoor
section
open Go.RowKit
def upX:ET:= .mk 1 0 ⟨#[120]⟩ []
def upS:ST:= .mk ⟨1,resW,⟨#[]⟩,⟨#[]⟩,upX,zE,zC,zA,[],[],[]⟩ [] []
def upP:QT:=⟨⟨#[112]⟩,[⟨#[120]⟩],[],zA,zA,[upS]⟩
def upA:AT:= .mk 1 (.mk 2 [upX,zE] []) zE zE ⟨#[]⟩ 0 []
def upQ:QT:=⟨⟨#[112]⟩,[],[],upA,zA,[]⟩
theorem upP_chk:chkN nmB 3 [upP]=(0, -1):=by kernel_rfl
theorem upQ_chk:chkN nmB 3 [upQ]=(12,0):=by kernel_rfl
def upXc:List Value:=[.int .i64 1,.int .i64 0,.string ⟨#[120]⟩,.slice none 0 0]
def upSc:List Value:=[.int .i64 1,.string ⟨#[114,101,115]⟩,.string ⟨#[]⟩,.string ⟨#[]⟩] ++ (upXc ++ (zEc ++ (zCc ++ (zAc ++ [.slice none 0 0,.slice none 0 0,.slice none 0 0,.slice none 0 0,.slice none 0 0]))))
def upPc (g1 g2:Nat):List Value:=[.string ⟨#[112]⟩,.slice (some ⟨g1,0,none⟩) 1 1,.slice none 0 0] ++ (zAc ++ (zAc ++ [.slice (some ⟨g2,0,none⟩) 1 1]))
def upAc (g5:Nat):List Value:=[.int .i64 1] ++ ([.int .i64 2,.slice (some ⟨g5,0,none⟩) 2 2,.slice none 0 0] ++ (zEc ++ (zEc ++ [.string ⟨#[]⟩,.int .i64 0,.slice none 0 0])))
def upQc (g5:Nat):List Value:=[.string ⟨#[112]⟩,.slice none 0 0,.slice none 0 0] ++ (upAc g5 ++ (zAc ++ [.slice none 0 0]))
theorem i64_s (x:Int)(h: -9223372036854775808≤x∧x≤9223372036854775807):i64 x:=h
theorem upX_rel (n:Nat)(S:Nat→Prop)(w:World):(exprSh (n+1)).rel S w upXc upX:=⟨_,rfl,⟨i64_s 1 (by decide),i64_0,show(⟨#[120]⟩:ByteArray).size≤maxLen from by decide⟩,slot_nil _ _ _⟩
theorem upS_rel (S:Nat→Prop)(w:World):(stmtSh 3).rel S w upSc upS:=
 ⟨upXc,zEc,zCc,zAc,_,_,_,_,_,rfl,⟨i64_s 1 (by decide),show resW.size≤maxLen from by decide,Nat.zero_le _,Nat.zero_le _⟩,⟨upX_rel 1 S w,zE_rel 1 S w,zC_rel 1 S w,zA_rel 0 S w⟩,⟨slot_nil _ _ _,slot_nil _ _ _,slot_nil _ _ _⟩,slot_nil _ _ _,slot_nil _ _ _⟩
theorem upP_rel {W:World}{g1 g2:Nat}(h1:Pak.Sits strSh (Pak.Lo W.heap.size) W (some ⟨g1,0,none⟩) [⟨#[120]⟩])(h2:Pak.Sits (stmtSh 3) (Pak.Lo W.heap.size) W (some ⟨g2,0,none⟩) [upS]):(procSh 3).rel (Pak.Lo W.heap.size) W (upPc g1 g2) upP:=
 ⟨_,_,zAc,zAc,_,rfl,show(⟨#[112]⟩:ByteArray).size≤maxLen from by decide,⟨some ⟨g1,0,none⟩,1,rfl,h1⟩,slot_nil _ _ _,zA_rel 1 _ _,zA_rel 1 _ _,⟨some ⟨g2,0,none⟩,1,rfl,h2⟩⟩
theorem upA_rel {W:World}{g5:Nat}(h5:Pak.Sits (exprSh 1) (Pak.Lo W.heap.size) W (some ⟨g5,0,none⟩) [upX,zE]):(assnSh 3).rel (Pak.Lo W.heap.size) W (upAc g5) upA:=
 ⟨[.int .i64 2,.slice (some ⟨g5,0,none⟩) 2 2,.slice none 0 0],zEc,zEc,_,rfl,⟨i64_s 1 (by decide),i64_0,Nat.zero_le _⟩,⟨_,_,rfl,i64_s 2 (by decide),⟨some ⟨g5,0,none⟩,2,rfl,h5⟩,slot_nil _ _ _⟩,zE_rel 1 _ _,zE_rel 1 _ _,slot_nil _ _ _⟩
theorem upQ_rel {W:World}{g5:Nat}(h5:Pak.Sits (exprSh 1) (Pak.Lo W.heap.size) W (some ⟨g5,0,none⟩) [upX,zE]):(procSh 3).rel (Pak.Lo W.heap.size) W (upQc g5) upQ:=
 ⟨_,_,upAc g5,zAc,_,rfl,show(⟨#[112]⟩:ByteArray).size≤maxLen from by decide,slot_nil _ _ _,slot_nil _ _ _,upA_rel h5,zA_rel 1 _ _,slot_nil _ _ _⟩
structure Eight (w W:World)(o0 o1 o2 o3 o4 o5 o6 o7:Obj):Prop where
 low:Below w.heap.size w W
 h0:W.heap[w.heap.size]? =some o0
 h1:W.heap[w.heap.size+1]? =some o1
 h2:W.heap[w.heap.size+1+1]? =some o2
 h3:W.heap[w.heap.size+1+1+1]? =some o3
 h4:W.heap[w.heap.size+1+1+1+1]? =some o4
 h5:W.heap[w.heap.size+1+1+1+1+1]? =some o5
 h6:W.heap[w.heap.size+1+1+1+1+1+1]? =some o6
 h7:W.heap[w.heap.size+1+1+1+1+1+1+1]? =some o7
theorem eight (w:World)(o0 o1 o2 o3 o4 o5 o6 o7:Obj):Eight w ((((((((w.alloc o0).alloc o1).alloc o2).alloc o3).alloc o4).alloc o5).alloc o6).alloc o7) o0 o1 o2 o3 o4 o5 o6 o7:=by
 have s1:(w.alloc o0).heap.size=w.heap.size+1:=by simp
 have s2:((w.alloc o0).alloc o1).heap.size=w.heap.size+1+1:=by simp
 have s3:(((w.alloc o0).alloc o1).alloc o2).heap.size=w.heap.size+1+1+1:=by simp
 have s4:((((w.alloc o0).alloc o1).alloc o2).alloc o3).heap.size=w.heap.size+1+1+1+1:=by simp
 have s5:(((((w.alloc o0).alloc o1).alloc o2).alloc o3).alloc o4).heap.size=w.heap.size+1+1+1+1+1:=by simp
 have s6:((((((w.alloc o0).alloc o1).alloc o2).alloc o3).alloc o4).alloc o5).heap.size=w.heap.size+1+1+1+1+1+1:=by simp
 have s7:(((((((w.alloc o0).alloc o1).alloc o2).alloc o3).alloc o4).alloc o5).alloc o6).heap.size=w.heap.size+1+1+1+1+1+1+1:=by simp
 refine⟨(((((((((Below.refl _ w).alloc (Nat.le_refl _) o0).alloc (by rw[s1];omega) o1).alloc (by rw[s2];omega) o2).alloc (by rw[s3];omega) o3).alloc (by rw[s4];omega) o4).alloc (by rw[s5];omega) o5).alloc (by rw[s6];omega) o6).alloc (by rw[s7];omega) o7), ?_, ?_, ?_, ?_, ?_, ?_, ?_, ?_⟩
 ·rw[heap_alloc_old _ o7 (by rw[s7];omega),heap_alloc_old _ o6 (by rw[s6];omega),heap_alloc_old _ o5 (by rw[s5];omega),heap_alloc_old _ o4 (by rw[s4];omega),heap_alloc_old _ o3 (by rw[s3];omega),heap_alloc_old _ o2 (by rw[s2];omega),heap_alloc_old _ o1 (by rw[s1];omega)]
  exact heap_alloc_new _ _
 ·rw[heap_alloc_old _ o7 (by rw[s7];omega),heap_alloc_old _ o6 (by rw[s6];omega),heap_alloc_old _ o5 (by rw[s5];omega),heap_alloc_old _ o4 (by rw[s4];omega),heap_alloc_old _ o3 (by rw[s3];omega),heap_alloc_old _ o2 (by rw[s2];omega)]
  rw[←s1]
  exact heap_alloc_new _ _
 ·rw[heap_alloc_old _ o7 (by rw[s7];omega),heap_alloc_old _ o6 (by rw[s6];omega),heap_alloc_old _ o5 (by rw[s5];omega),heap_alloc_old _ o4 (by rw[s4];omega),heap_alloc_old _ o3 (by rw[s3];omega)]
  rw[←s2]
  exact heap_alloc_new _ _
 ·rw[heap_alloc_old _ o7 (by rw[s7];omega),heap_alloc_old _ o6 (by rw[s6];omega),heap_alloc_old _ o5 (by rw[s5];omega),heap_alloc_old _ o4 (by rw[s4];omega)]
  rw[←s3]
  exact heap_alloc_new _ _
 ·rw[heap_alloc_old _ o7 (by rw[s7];omega),heap_alloc_old _ o6 (by rw[s6];omega),heap_alloc_old _ o5 (by rw[s5];omega)]
  rw[←s4]
  exact heap_alloc_new _ _
 ·rw[heap_alloc_old _ o7 (by rw[s7];omega),heap_alloc_old _ o6 (by rw[s6];omega)]
  rw[←s5]
  exact heap_alloc_new _ _
 ·rw[heap_alloc_old _ o7 (by rw[s7];omega)]
  rw[←s6]
  exact heap_alloc_new _ _
 ·skip
  rw[←s7]
  exact heap_alloc_new _ _
theorem up_said16:UpSaid16:=fun w hL hL0=>by
 have n2:=fun W=>Tryz.eqNil W
 have F:=Lib.hid (eight w (.cells #[.int .i64 1,.int .i64 0,.string ⟨#[120]⟩,.slice none 0 0] 37) (.cells #[.string ⟨#[120]⟩] 9) (.cells upSc.toArray 47) (.cells (upPc (w.heap.size+1) (w.heap.size+1+1)).toArray 49) (.cells #[.slice (some ⟨w.heap.size+1+1+1,0,none⟩) 1 1] 24) (.cells #[.int .i64 1,.int .i64 0,.string ⟨#[120]⟩,.slice none 0 0,.int .i64 0,.int .i64 0,.string ⟨#[]⟩,.slice none 0 0] 37) (.cells (upQc (w.heap.size+1+1+1+1+1)).toArray 49) (.cells #[.slice (some ⟨w.heap.size+1+1+1+1+1+1,0,none⟩) 1 1] 24))
 have st1:∀W,W=((((((((w.alloc (.cells #[.int .i64 1,.int .i64 0,.string ⟨#[120]⟩,.slice none 0 0] 37)).alloc (.cells #[.string ⟨#[120]⟩] 9)).alloc (.cells upSc.toArray 47)).alloc (.cells (upPc (w.heap.size+1) (w.heap.size+1+1)).toArray 49)).alloc (.cells #[.slice (some ⟨w.heap.size+1+1+1,0,none⟩) 1 1] 24)).alloc (.cells #[.int .i64 1,.int .i64 0,.string ⟨#[120]⟩,.slice none 0 0,.int .i64 0,.int .i64 0,.string ⟨#[]⟩,.slice none 0 0] 37)).alloc (.cells (upQc (w.heap.size+1+1+1+1+1)).toArray 49)).alloc (.cells #[.slice (some ⟨w.heap.size+1+1+1+1+1+1,0,none⟩) 1 1] 24))→Pak.Sits (procSh 3) (Pak.Lo W.heap.size) W (some ⟨w.heap.size+1+1+1,0,none⟩) [upP]:=by
  rintro W rfl
  have lt:=fun {g:Nat} {o:Obj} (h:(((((((((w.alloc (.cells #[.int .i64 1,.int .i64 0,.string ⟨#[120]⟩,.slice none 0 0] 37)).alloc (.cells #[.string ⟨#[120]⟩] 9)).alloc (.cells upSc.toArray 47)).alloc (.cells (upPc (w.heap.size+1) (w.heap.size+1+1)).toArray 49)).alloc (.cells #[.slice (some ⟨w.heap.size+1+1+1,0,none⟩) 1 1] 24)).alloc (.cells #[.int .i64 1,.int .i64 0,.string ⟨#[120]⟩,.slice none 0 0,.int .i64 0,.int .i64 0,.string ⟨#[]⟩,.slice none 0 0] 37)).alloc (.cells (upQc (w.heap.size+1+1+1+1+1)).toArray 49)).alloc (.cells #[.slice (some ⟨w.heap.size+1+1+1+1+1+1,0,none⟩) 1 1] 24))).heap[g]? =some o)=>(Array.getElem?_eq_some_iff.1 h).1
  exact sits_block F.out.h3 (lt F.out.h3) (upP_rel (sits_block (cs:=[.string ⟨#[120]⟩]) F.out.h1 (lt F.out.h1) ⟨rfl,by decide⟩) (sits_block (cs:=upSc) F.out.h2 (lt F.out.h2) (upS_rel _ _)))
 have st2:∀W,W=((((((((w.alloc (.cells #[.int .i64 1,.int .i64 0,.string ⟨#[120]⟩,.slice none 0 0] 37)).alloc (.cells #[.string ⟨#[120]⟩] 9)).alloc (.cells upSc.toArray 47)).alloc (.cells (upPc (w.heap.size+1) (w.heap.size+1+1)).toArray 49)).alloc (.cells #[.slice (some ⟨w.heap.size+1+1+1,0,none⟩) 1 1] 24)).alloc (.cells #[.int .i64 1,.int .i64 0,.string ⟨#[120]⟩,.slice none 0 0,.int .i64 0,.int .i64 0,.string ⟨#[]⟩,.slice none 0 0] 37)).alloc (.cells (upQc (w.heap.size+1+1+1+1+1)).toArray 49)).alloc (.cells #[.slice (some ⟨w.heap.size+1+1+1+1+1+1,0,none⟩) 1 1] 24))→Pak.Sits (procSh 3) (Pak.Lo W.heap.size) W (some ⟨w.heap.size+1+1+1+1+1+1,0,none⟩) [upQ]:=by
  rintro W rfl
  have lt:=fun {g:Nat} {o:Obj} (h:(((((((((w.alloc (.cells #[.int .i64 1,.int .i64 0,.string ⟨#[120]⟩,.slice none 0 0] 37)).alloc (.cells #[.string ⟨#[120]⟩] 9)).alloc (.cells upSc.toArray 47)).alloc (.cells (upPc (w.heap.size+1) (w.heap.size+1+1)).toArray 49)).alloc (.cells #[.slice (some ⟨w.heap.size+1+1+1,0,none⟩) 1 1] 24)).alloc (.cells #[.int .i64 1,.int .i64 0,.string ⟨#[120]⟩,.slice none 0 0,.int .i64 0,.int .i64 0,.string ⟨#[]⟩,.slice none 0 0] 37)).alloc (.cells (upQc (w.heap.size+1+1+1+1+1)).toArray 49)).alloc (.cells #[.slice (some ⟨w.heap.size+1+1+1+1+1+1,0,none⟩) 1 1] 24))).heap[g]? =some o)=>(Array.getElem?_eq_some_iff.1 h).1
  exact sits_block F.out.h6 (lt F.out.h6) (upQ_rel (sits_two2 (cs:=upXc) (ds:=zEc) F.out.h5 (lt F.out.h5) rfl (upX_rel 0 _ _) (zE_rel 0 _ _)))
 have h1:=ncheck_any nmLaw 3 [upP] (some ⟨w.heap.size+1+1+1,0,none⟩) 1 _ (st1 _ rfl) (by decide) (fun q hq=>by rw[List.mem_singleton.1 hq];exact⟨by decide,by decide⟩) (hL.up F.out.low)
 rw[upP_chk]at h1
 have H1:=Lib.hid h1
 have ST2:=Lib.hid (st2 _ rfl)
 have HL:=Lib.hid hL
 have HL0:=Lib.hid hL0
 clear h1 st1 st2 hL hL0
 go_enter Tryz.func5,Tryz.ntmps5
 go_wp2_with fail
 refine H1.out.mono ?_
 rintro r w1 ⟨er,rfl,he,hb⟩
 obtain rfl:=he.1 (by decide)
 have B1:=Lib.hid (F.out.low.trans (hb.mono F.out.low.size))
 have S2:=ST2.out.below hb hb.size
 have k7:w1.cell? ⟨w.heap.size+1+1+1+1+1+1+1,0,none⟩=some (.slice (some ⟨w.heap.size+1+1+1+1+1+1,0,none⟩) 1 1):=(hb.cell (p:=⟨w.heap.size+1+1+1+1+1+1+1,0,none⟩) (Array.getElem?_eq_some_iff.1 F.out.h7).1).trans ((cell_of_row _ _ _ _ _ _ F.out.h7).trans rfl)
 have h2:=ncheck_any nmLaw 3 [upQ] (some ⟨w.heap.size+1+1+1+1+1+1,0,none⟩) 1 w1 S2 (by decide) (fun q hq=>by rw[List.mem_singleton.1 hq];exact⟨by decide,by decide⟩) (HL.out.up B1.out)
 rw[upQ_chk]at h2
 have H2:=Lib.hid h2
 clear h2 S2 hb he H1 ST2 F
 rw[show codeV ((0:Int),(-1:Int)).1= .nilIface from rfl]
 go_wp2_with fail
 refine H2.out.mono ?_
 rintro r w2 ⟨er,rfl,he,hb⟩
 obtain⟨g,rfl,hg1,hg2,hg3,hg4⟩:=he.2 (by decide)
 have B2:=Lib.hid (B1.out.trans (hb.mono B1.out.size))
 have G:=Lib.hid (sis_any g 0 12 w2 (HL0.out.below B2.out HL0.out.pos) hg2 hg3 hg4)
 clear hb he hg1 hg2 hg3 hg4 H2 B1 k7
 go_wp2_with fail
 refine G.out.mono ?_
 rintro r w3 ⟨rfl,hb⟩
 have B3:=Lib.hid (B2.out.trans (hb.mono B2.out.size))
 clear hb G
 go_wp2_with fail
 go_ret
 exact⟨rfl,B3.out⟩
end
section
open Go.ChangeShapes Go.WideShapes Go.ChangeAt Go.RowKit
theorem namesCheck_lifted (hup:UpSaid16)(os:Os)(started:os.Started)(H:Type)(enc:TypeId×Value→H):
 ReturnsInHanded {} Tryz.checked os 3 .any (fun w args=>(Rows.namesCheckSpec.pre enc Tryz.prog Tryz.f3 [] false w args∧laidMetH Tryz.prog laidL w)∧sizedMet enc Tryz.prog Tryz.f3 (OpenSpec.ofChange Rows.namesCheckSpec) false w args)
  (Rows.namesCheckSpec.post enc Tryz.prog Tryz.f3 false true false false):=by
 refine returnsInHanded_of_change_and (C:=Tryz.checked) (X:=fun w _=>laidMetH Tryz.prog laidL w) (fun _ _ _ hh h=>h.of_heap hh) Tryz.own started (by kernel_rfl) Tryz.func3
  (ChangeSpec.witness_at (enc:=enc) (C:=Tryz.checked) (os:=os) (X:=fun w _=>laidMetH Tryz.prog laidL w) false (laidWorld os) #[.agg #[.slice none 0 0]] 8 rfl (by kernel_rfl) (by kernel_rfl) (by kernel_rfl) (by kernel_rfl) (by kernel_rfl) (laidWorld_met os _)) ?_
 intro W base args ds gs before hval0 hW _ _ hL _
 have hval:∀(j:Nat) t v,Tryz.f3.params[j]? =some t→args[j]? =some v→Value.okWide Tryz.prog W .any base t v:=hval0
 have hW':=hW
 obtain⟨p,q,hA0,hV,rfl,hfz,hnd⟩:=hW
 have hA:DataW.TrodAll enc Tryz.prog W 0 (fun _=>true) true Tryz.f3.params.toList args.toList ds p:=hA0
 rw[Tryz.params3]at hA hval
 obtain⟨v0,vs0,d0,ds0,p0,q0,hargs,rfl,rfl,h0,r0⟩:=trodAll_cons hA
 obtain⟨rfl,rfl,rfl⟩:=trodAll_nil r0
 obtain rfl:args= #[v0]:=by cases args;simp_all
 obtain⟨rfl,rfl⟩:=trodVars_none hV
 have k0:=h0
 have lt0:∀x∈p0,x.block<W.heap.size:=by obtain⟨m,hm⟩:=k0;exact DataW.trod_lt m _ _ _ hm
 obtain⟨n,a,m,cap,qs,rfl,hqm,hqs⟩:=open_prog (hval 0 24 v0 rfl rfl) h0
 have hg:=handle_of_laid hL
 clear hA0 hval0
 refine(namesCheck_any hup n qs a m cap W hqm hqs hg.1 hg.2).mono fun e W' ⟨he,bel⟩=> ?_
 subst he
 exact⟨_,rfl,_,_,_,[],_,[],hW',trodAll_mk1 (shut_bool Tryz.underlying4 _),(trodAll_cons_mk (Below.trod Tryz.laidOut (by kernel_rfl) (of_decide_eq_true (by kernel_rfl)) k0 bel lt0) trodAll_mk0),rfl,bel.frame _,fun h=>by cases h⟩
theorem namesCheck_over (hup:UpSaid16):Rows.NamesCheckSaid:=
 OpenClaim.holds_of_wide 3 Tryz.f3 rfl rfl rfl rfl rfl rfl rfl ⟨rfl,rfl,rfl,rfl,rfl⟩ rfl rfl rfl rfl rfl (by kernel_rfl) Tryz.func3 (by kernel_rfl)
  (of_decide_eq_true (by kernel_rfl)) (by unfold Func.isWrapper;first | (rw[if_pos (by decide+kernel)];kernel_rfl) | (rw[if_neg (by decide+kernel)];exact⟨rfl,rfl⟩))
  (fun os started H enc _=>namesCheck_lifted hup os started H enc)
end
end Go.Proofs.YtfcaclmcnlflfaaGreatDoor
