/- Parts of a proof. -/
import Derived.Test.YtipahfcaplbifaaGreatDoorZ02
import Derived.Test.YtipahfcaplbifaaGreatDoorZ20
set_option linter.unusedVariables false
set_option linter.unusedSimpArgs false
set_option maxHeartbeats 60000000
set_option maxRecDepth 100000
namespace Go.Proofs.YtipahfcaplbifaaGreatDoor
namespace Cut
open Go.RowKit Go.Maps
theorem LinesIs.isPrem {ls ss x at' L}(h:LinesIs ls ss x at' L)(h1:ls.length≤4096)(h2:ss.length≤4096){i:Nat}(hi:i<ls.length)(h3:∀j,j<i→snd (ls.getD j (0,[])).1 (ls.getD j (0,[])).2=true)(h4:snd (ls.getD i (0,[])).1 (ls.getD i (0,[])).2=false):x=5∧at'=i∧L=[]:=by
 cases h with
 | long h=>omega
 | prem k _ _ hk g1 g2=>
   have:k=i:=by
    rcases Nat.lt_trichotomy k i with e | e | e
    ·rw[h3 k e]at g2;cases g2
    ·exact e
    ·rw[g1 i e]at h4;cases h4
   exact⟨rfl,by rw[this],rfl⟩
 | step k _ _ hok=>rw[hok i hi]at h4;cases h4
 | ok _ _ hok=>rw[hok i hi]at h4;cases h4
theorem LinesIs.isStep {ls ss x at' L}(h:LinesIs ls ss x at' L)(h1:ls.length≤4096)(h2:ss.length≤4096)(hok:lsOk ls){i:Nat}(hi:i<ss.length)(h3:∀j,j<i→tellS (lnL ls ss j) (ss.getD j ([],0))=0)(h4:tellS (lnL ls ss i) (ss.getD i ([],0))≠0):x=tellS (lnL ls ss i) (ss.getD i ([],0))∧at'=i∧L=[]:=by
 cases h with
 | long h=>omega
 | prem k _ _ hk g1 g2=>rw[hok k hk]at g2;cases g2
 | step k _ _ _ hk g1 g2=>
   have:k=i:=by
    rcases Nat.lt_trichotomy k i with e | e | e
    ·exact absurd (h3 k e) g2
    ·exact e
    ·exact absurd (g1 i e) h4
   exact⟨by rw[this],by rw[this],rfl⟩
 | ok _ _ _ g=>exact absurd (g i hi) h4
theorem LinesIs.isOk {ls ss x at' L}(h:LinesIs ls ss x at' L)(h1:ls.length≤4096)(h2:ss.length≤4096)(hok:lsOk ls)(h3:∀j,j<ss.length→tellS (lnL ls ss j) (ss.getD j ([],0))=0):x=0∧at'= -1∧L=lnL ls ss ss.length:=by
 cases h with
 | long h=>omega
 | prem k _ _ hk g1 g2=>rw[hok k hk]at g2;cases g2
 | step k _ _ _ hk g1 g2=>exact absurd (h3 k hk) g2
 | ok _ _ _ _=>exact⟨rfl,rfl,rfl⟩
theorem Tryz.infoLin:(Tryz.prog.info? 36).map (fun i=>(i.zero,i.size,i.bytes))=some (some (.agg #[.int .i64 0,.slice none 0 0]),2,32):=by kernel_rfl
theorem run_make_lins (W:World)(n m:Nat)(hn:n+m≤8192):(Instr.makeSlice 22 (.int .i64 0) (.int .i64 ((n:Int)+(m:Int)))).run Tryz.prog W= .ok (.slice (some ⟨W.heap.size,0,none⟩) 0 (n+m)) (W.alloc (.cells (madeCells #[.int .i64 0,.slice none 0 0] ((n+m)*2)) 36)):=by
 obtain⟨i0,hi,hz0,hz1,hz2⟩:=info_parts Tryz.infoLin
 have:=run_make (P:=Tryz.prog) W 22 36 i0 _ Tryz.underlying22 hi hz0 .i64 .i64 0 ((n:Int)+(m:Int)) (by omega) (by omega) (by rw[hz2];omega) (by omega)
 rw[hz1]at this
 rw[show((n:Int)+(m:Int)).toNat=n+m by omega]at this
 exact this
theorem lin_new (w:World)(x:Int)(ta:Option Addr)(k cap:Nat)(t:TypeId)(N:Nat)(hN:w.heap.size=N):∀j u,[Value.int .i64 x,.slice ta k cap][j]? =some u→(w.alloc (.cells #[.int .i64 x,.slice ta k cap] t)).cell? ((⟨N,0,none⟩:Addr).add j)=some u:=by
 subst hN
 exact cell_two_new' w _ _ t
theorem lin_one (x:Int)(ta:Option Addr)(k cap:Nat):∀u∈[Value.int .i64 x,.slice ta k cap],u.oneCell'=true:=by
 intro u hu
 rcases List.mem_cons.1 hu with rfl | hu
 ·rfl
 ·rw[List.mem_singleton]at hu;subst hu;rfl
theorem take_snocL (l:List (Int×List (Int×Int)))(k:Nat)(h:k<l.length):l.take (k+1)=l.take k ++ [l.getD k (0,[])]:=by
 rw[List.take_succ_eq_append_getElem h]
 simp[List.getD_eq_getElem?_getD,h]
theorem tell_is (ls:List (Int×List (Int×Int)))(s:List (Int×Int)×Int)(h:tellS ls s=0):TellIs ls.length (cTo ls s.1 s.1.length) s.2 s.1 (sumOf (tTo ls s.1 s.1.length)) 0 (lineS ls s).1 (lineS ls s).2:=
 ⟨fun _=>⟨rfl,rfl,rfl⟩,fun h2=>absurd h h2⟩
theorem tell_is_bad (ls:List (Int×List (Int×Int)))(s:List (Int×Int)×Int)(h:tellS ls s≠0):TellIs ls.length (cTo ls s.1 s.1.length) s.2 s.1 (sumOf (tTo ls s.1 s.1.length)) (tellS ls s) 0 []:=
 ⟨fun h2=>absurd h2 h,fun _=>⟨rfl,rfl,rfl⟩⟩
theorem lines_long (a:Option Addr)(n cap:Nat)(ls:List (Int×List (Int×Int)))(sa:Option Addr)(sn scap:Nat)(ss:List (List (Int×Int)×Int))(w:World)(h:4096<n∨4096<sn):
 Calls Tryz.prog 89 #[.slice a n cap,.slice sa sn scap] w (LinesEnd w.heap.size 2 (-1) [] w):=by
 have hE:LinesEnd w.heap.size 2 (-1) [] w (.returned (.tuple #[.slice none 0 0,.iface 60 (.int .i64 2)])) w:=⟨_,_,[],rfl,LRow.nil _ _,rfl,⟨fun _=>rfl,fun h=>absurd h (by omega)⟩,Below.refl _ _⟩
 by_cases h1:4096<n
 ·go_enter Tryz.func89,Tryz.ntmps89
  go_wp2_with fail
  go_ret2
  exact hE
 ·have h2:4096<sn:=by omega
  go_enter Tryz.func89,Tryz.ntmps89
  go_wp2_with fail
  go_ret2
  exact hE
theorem lines_walk (a:Option Addr)(n cap:Nat)(ls:List (Int×List (Int×Int)))(sa:Option Addr)(sn scap:Nat)(ss:List (List (Int×Int)×Int))(w:World)(hn:ls.length=n)(h1:n≤4096)(hl:LLies w.heap.size w a ls)(hlm:∀i,i<n→(ls.getD i (0,[])).2.length≤9223372036854775807)(hsn:ss.length=sn)(h2:sn≤4096)(hs:SLies w.heap.size w sa ss)(x at':Int)(L:List (Int×List (Int×Int)))(hL:LinesIs ls ss x at' L):
 Calls Tryz.prog 89 #[.slice a n cap,.slice sa sn scap] w (LinesEnd w.heap.size x at' L w):=by
 have HN:=Lib.hid hn
 have HSN:=Lib.hid hsn
 have HL:=Lib.hid hl
 have HLM:=Lib.hid hlm
 have HS:=Lib.hid hs
 have HLI:=Lib.hid hL
 clear hl hlm hs hL hn hsn
 have hmk:=fun W=>run_make_lins W n sn (by omega)
 have hwr:IntKind.i64.wrap ((n:Int)+(sn:Int))=(n:Int)+(sn:Int):=IntWalk.i64_in _ (by omega)
 obtain⟨i0,hi,hz0,hz1,hz2⟩:=info_parts Tryz.infoLin
 have R0:Hid (LRow w.heap.size [] (.slice (some ⟨w.heap.size,0,none⟩) 0 (n+sn)) (w.alloc (.cells (madeCells #[.int .i64 0,.slice none 0 0] ((n+sn)*2)) 36))):=
  ⟨World.ownsRow_made w _ _ (Nat.le_refl _) (by unfold maxLen;omega) (by rw[size_madeCells]),fun x hx=>by cases hx⟩
 have B0:Hid (Below w.heap.size w (w.alloc (.cells (madeCells #[.int .i64 0,.slice none 0 0] ((n+sn)*2)) 36))):=(Below.refl _ w).alloc (Nat.le_refl _) _
 go_enter Tryz.func89,Tryz.ntmps89
 go_wp2_with fail
 generalize w.alloc (.cells (madeCells #[.int .i64 0,.slice none 0 0] ((n+sn)*2)) 36)=w1 at R0 B0⊢
 clear hmk hwr
 go_loopw [6,30] (fun v i wr=>∃(k:Nat) (xs:List LT),k≤n∧i= .int .i64 k∧Hid (LRow w.heap.size xs v wr)∧Hid (lforms xs=ls.take k)∧Hid (∀j,j<k→snd (ls.getD j (0,[])).1 (ls.getD j (0,[])).2=true)∧Hid (Below w.heap.size w wr)) (fun _ i _=>n - (intOf i).toNat)
 case atStart=>exact⟨0,[],Nat.zero_le _,rfl,R0,rfl,fun j hj=>absurd hj (Nat.not_lt_zero _),B0⟩
 case round=>
  clear R0 B0
  obtain⟨k,xs,hk,rfl,hrow,hfs,hok,hb⟩:=hrel
  obtain⟨wo,rfl⟩:∃wo:World,wo=wr:=⟨_,rfl⟩
  have hxl:xs.length=k:=by rw[←lforms_len,hfs.out,List.length_take,HN.out];omega
  by_cases hlt:k<n
  ·obtain⟨b,off,ta,tcap,rfl,hblt,c0,c1,hli⟩:=HL.out k (by rw[HN.out];exact hlt)
   have hbel:=hb.out
   rw[←hbel.cell (p:=⟨b,_,none⟩) hblt]at c0 c1
   have hlm:=HLM.out k hlt
   have HFS1:Hid (ls.take (k+1)=ls.take k ++ [ls.getD k (0,[])]):=take_snocL ls k (by rw[HN.out];exact hlt)
   have hpr:snd (ls.getD k (0,[])).1 (ls.getD k (0,[])).2=false→x=5∧at'=k∧L=[]:=fun h=>HLI.out.isPrem (by rw[HN.out];exact h1) (by rw[HSN.out];exact h2) (by rw[HN.out];exact hlt) hok.out h
   have hok1:snd (ls.getD k (0,[])).1 (ls.getD k (0,[])).2=true→Hid (∀j,j<k+1→snd (ls.getD j (0,[])).1 (ls.getD j (0,[])).2=true):=fun h j hj=>by
    by_cases e:j=k
    ·subst e;exact h
    ·exact hok.out j (by omega)
   have hz:=hbel.size
   obtain⟨ce,te⟩:∃z,z=ls.getD k (0,[]):=⟨_,rfl⟩
   rw[←te]at c0 c1 hli hlm HFS1 hpr hok1
   obtain⟨c,t⟩:=ce
   simp only at c0 c1 hli hlm hpr hok1
   clear te
   have HLI2:=Lib.hid hli
   clear hli
   have hbp:Below wo.heap.size wo (wo.alloc (.cells #[.int .i64 c,.slice ta t.length tcap] 36)):=(Below.refl _ wo).alloc (Nat.le_refl _) _
   have BP:Hid (Below w.heap.size w (wo.alloc (.cells #[.int .i64 c,.slice ta t.length tcap] 36))):=hbel.trans (hbp.mono hz)
   have RP:Hid (LRow w.heap.size xs u6 (wo.alloc (.cells #[.int .i64 c,.slice ta t.length tcap] 36))):=hrow.out.below hbp
   have PZ:Hid ((wo.alloc (.cells #[.int .i64 c,.slice ta t.length tcap] 36)).heap[wo.heap.size]? =some (.cells #[.int .i64 c,.slice ta t.length tcap] 36 (0,0))):=heap_alloc_new wo _
   clear hbp
   by_cases hsn:snd c t=true
   ·have HCK:=Lib.hid (fun W (hb:Below w.heap.size w W)=>check_yes c ta t.length tcap t W rfl ((HLI2.out.below hb).mono hb.size) hsn)
    have hok2:=hok1 hsn
    have ht64:=(snd_iff.1 hsn).2.1
    have HCL:=Lib.hid (fun W (hb:Below w.heap.size w W)=>clone_any ta t.length tcap t W rfl (by omega) ((HLI2.out.below hb).mono hb.size))
    clear hpr hok1 hsn
    go_wp2_with fail
    generalize hW1:wo.alloc (.cells #[.int .i64 c,.slice ta t.length tcap] 36)=wp at BP RP PZ⊢
    have hzp:wo.heap.size<wp.heap.size:=by rw[←hW1];simp
    clear hW1
    have p0:wp.cell? ⟨wo.heap.size,0,none⟩=some (.int .i64 c):=by rw[cell_of_row _ _ _ _ _ _ PZ.out];rfl
    have p1:wp.cell? ⟨wo.heap.size,1,none⟩=some (.slice ta t.length tcap):=by rw[cell_of_row _ _ _ _ _ _ PZ.out];rfl
    generalize wo.heap.size=P at hzp p0 p1 hz⊢
    clear c0 c1 PZ hbel hrow hb
    go_wp2_with fail
    refine(HCK.out _ BP.out).mono ?_
    rintro e w2 ⟨rfl,hb2⟩
    have q0:w2.cell? ⟨P,0,none⟩=some (.int .i64 c):=(hb2.cell (p:=⟨P,0,none⟩) hzp).trans p0
    have q1:w2.cell? ⟨P,1,none⟩=some (.slice ta t.length tcap):=(hb2.cell (p:=⟨P,1,none⟩) hzp).trans p1
    have B2:=Lib.hid (BP.out.trans (hb2.mono BP.out.size))
    have R2:=Lib.hid (RP.out.below hb2)
    have hzp2:P<w2.heap.size:=Nat.lt_of_lt_of_le hzp hb2.size
    have HP2:=Lib.hid hzp2
    clear hb2 p0 p1 BP RP HCK hzp hzp2
    have QA:Hid (∀W,Below w2.heap.size w2 W→W.cell? ⟨P,0,none⟩=some (.int .i64 c)∧W.cell? ⟨P,1,none⟩=some (.slice ta t.length tcap)):=fun W hb=>⟨(hb.cell (p:=⟨P,0,none⟩) HP2.out).trans q0,(hb.cell (p:=⟨P,1,none⟩) HP2.out).trans q1⟩
    clear HLI HLM HL HS
    go_wp2_with fail
    go_region_law (first
     | (refine step_append_lies _ (by rfl) _ _ _ (by rfl) w.heap.size 36 i0 _ 2 32 Tryz.underlying22 hi hz0 hz1 hz2 rfl (by omega) u6 xs.length (lcells xs) (by rfl) HRW.out
         ⟨w5.heap.size,0,none⟩ 1 1 [.int .i64 c,.slice a5 t.length cap5] (by rfl) (by rfl) NEWS.out (lin_one _ _ _ _) (by omega) (by unfold maxLen;omega) (by omega) HBZ.out (w5.heap.size+1) (by simp) ?_
        intro gg cap6 w6 hown6 hgrow6 hat6 hlt6)
     | (go_simp
        go_at_call 49
        refine(HCL.out _ B2.out.drew).mono ?_
        rintro e w5 ⟨v5,rfl,hrow5,hb5⟩
        obtain⟨a5,cap5,rfl,hl5⟩:=hrow5.liesC
        have HB5:Hid (Below w2.heap.size w2 w5):=(Below.refl _ w2).drew.trans hb5
        have r0:=(QA.out _ HB5.out).1
        have r1:=(QA.out _ HB5.out).2
        have HL5:=Lib.hid hl5
        have HRW:Hid ((w5.alloc (.cells #[.int .i64 c,.slice a5 t.length cap5] 36)).ownsRow w.heap.size 36 2 u6 xs.length (lcells xs)):=World.ownsRow.alloc (R2.out.below HB5.out).row _
        have NEWS:=Lib.hid (lin_new w5 c a5 t.length cap5 36 w5.heap.size rfl)
        have HBZ:Hid (w.heap.size≤(w5.alloc (.cells #[.int .i64 c,.slice a5 t.length cap5] 36)).heap.size):=Nat.le_trans (Nat.le_trans B2.out.size HB5.out.size) ((Below.refl w5.heap.size w5).alloc (Nat.le_refl _) _).size
        clear hrow5 hl5 hb5))
    all_goals
     have BA5:Below w5.heap.size w5 (w5.alloc (.cells #[.int .i64 c,.slice a5 t.length cap5] 36)):=(Below.refl _ w5).alloc (Nat.le_refl _) _
     have RN:Hid (LRow w.heap.size (xs ++ [⟨c,a5,cap5,t⟩]) (.slice (some ⟨gg,0,none⟩) (xs.length+1) cap6) w6):=
      LRow.step (x:=⟨c,a5,cap5,t⟩) (w5:=w5.alloc (.cells #[.int .i64 c,.slice a5 t.length cap5] 36)) (g:=gg) (H:=w5.heap.size+1) R2.out B2.out.size (HB5.out.trans (BA5.mono HB5.out.size)) (HL5.out.keep (fun b ⟨h1,h2⟩=>⟨h1,Nat.lt_of_lt_of_le h2 BA5.size⟩) (fun b o ⟨h1,h2⟩=>BA5.cell (p:=⟨b,o,none⟩) h2)) hgrow6 (by simp) rfl hat6 hown6
     have BN:Hid (Below w.heap.size w w6):=((B2.out.trans (HB5.out.mono B2.out.size)).trans (BA5.mono (Nat.le_trans B2.out.size HB5.out.size))).grown hgrow6 HBZ.out (fun g hg=>(World.ownsRow.lt R2.out.row g hg).1)
     have FN:Hid (lforms (xs ++ [⟨c,a5,cap5,t⟩])=ls.take (k+1)):=by
      show _=_
      rw[lforms_append,hfs.out,HFS1.out];rfl
     rw[hxl]at RN
     clear BA5 hown6 hgrow6 hat6 hlt6 HRW NEWS HBZ HL5 HB5 q0 q1 QA r0 r1
     go_wp2_with fail
     go_roundw
     case rel=>exact⟨k+1,_,by omega,by go_num,RN,FN,hok2,BN⟩
     case measure=>simp[intOf];omega
   ·rw[Bool.not_eq_true]at hsn
    have HCK:=Lib.hid (fun W (hb:Below w.heap.size w W)=>check_no c ta t.length tcap t W rfl hlm ((HLI2.out.below hb).mono hb.size) hsn)
    obtain⟨rfl,rfl,rfl⟩:=hpr hsn
    clear hpr hok1 hsn
    go_wp2_with fail
    generalize hW1:wo.alloc (.cells #[.int .i64 c,.slice ta t.length tcap] 36)=wp at BP RP PZ⊢
    have hzp:wo.heap.size<wp.heap.size:=by rw[←hW1];simp
    clear hW1
    have p0:wp.cell? ⟨wo.heap.size,0,none⟩=some (.int .i64 c):=by rw[cell_of_row _ _ _ _ _ _ PZ.out];rfl
    have p1:wp.cell? ⟨wo.heap.size,1,none⟩=some (.slice ta t.length tcap):=by rw[cell_of_row _ _ _ _ _ _ PZ.out];rfl
    generalize wo.heap.size=P at hzp p0 p1 hz⊢
    clear c0 c1 PZ hbel hrow hb
    go_wp2_with fail
    refine(HCK.out _ BP.out).mono ?_
    rintro e w2 ⟨rfl,hb2⟩
    have B2:=Lib.hid (BP.out.trans (hb2.mono BP.out.size))
    have BE:Hid (Below w2.heap.size w2 (w2.alloc (.cells #[.int .i64 k,.iface 60 (.int .i64 5)] 79))):=(Below.refl _ w2).alloc (Nat.le_refl _) _
    have ZE:=Lib.hid (heap_alloc_new w2 (.cells #[.int .i64 k,.iface 60 (.int .i64 5)] 79))
    clear hb2 p0 p1 BP RP HCK
    go_wp2_with fail
    go_ret2
    refine⟨_,_,[],rfl,LRow.nil _ _,rfl,⟨fun h=>absurd h (by omega),fun _=>⟨w2.heap.size,rfl,B2.out.size,lt_of_some ZE.out,(cell_of_row _ _ _ _ _ _ ZE.out).trans rfl,(cell_of_row _ _ _ _ _ _ ZE.out).trans rfl⟩⟩,B2.out.trans (BE.out.mono B2.out.size)⟩
  ·obtain rfl:k=n:=by omega
   have hlsok:lsOk ls:=fun i hi=>hok.out i (by rw[HN.out]at hi;exact hi)
   have HOK:=Lib.hid hlsok
   have HF0:Hid (lforms xs=ls):=by
    show _=_
    rw[hfs.out,List.take_of_length_le (by rw[HN.out];exact Nat.le_refl _)]
   have HR0:=hrow
   have HB0:=hb
   clear hlsok hok hfs HL HLM
   go_wp2_with fail
   go_loopw [6,55] (fun v i wr=>∃(j:Nat) (xs:List LT),j≤sn∧i= .int .i64 j∧Hid (LRow w.heap.size xs v wr)∧Hid (lforms xs=lnL ls ss j)∧Hid (∀m,m<j→tellS (lnL ls ss m) (ss.getD m ([],0))=0)∧Hid (Below w.heap.size w wr)) (fun _ i _=>sn - (intOf i).toNat)
   case atStart=>exact⟨0,xs,Nat.zero_le _,rfl,HR0,HF0,fun j hj=>absurd hj (Nat.not_lt_zero _),HB0⟩
   case round=>
    clear HR0 HB0 HF0 hrow hb
    obtain⟨j,ys,hj,rfl,hrow,hfs,hok,hb⟩:=hrel
    obtain⟨wo,rfl⟩:∃wo:World,wo=wr:=⟨_,rfl⟩
    have hyl:ys.length=k+j:=by rw[←lforms_len,hfs.out,lnL_len,HN.out]
    have hym:ys.length≤8192:=by omega
    clear hyl
    by_cases hjt:j<sn
    ·obtain⟨b,off,ta,tcap,rfl,hblt,hpm,c0,c1,hli⟩:=HS.out j (by rw[HSN.out];exact hjt)
     have hbel:=hb.out
     rw[←hbel.cell (p:=⟨b,_,none⟩) hblt]at c0 c1
     have hz:=hbel.size
     have HLK:=Lib.hid (lnL_ok HOK.out j hok.out)
     have hbad:tellS (lnL ls ss j) (ss.getD j ([],0))≠0→x=tellS (lnL ls ss j) (ss.getD j ([],0))∧at'=j∧L=[]:=fun h=>HLI.out.isStep (by rw[HN.out];exact h1) (by rw[HSN.out];exact h2) HOK.out (by rw[HSN.out];exact hjt) hok.out h
     have hok1:tellS (lnL ls ss j) (ss.getD j ([],0))=0→Hid (∀m,m<j+1→tellS (lnL ls ss m) (ss.getD m ([],0))=0):=fun h m hm=>by
      by_cases e:m=j
      ·subst e;exact h
      ·exact hok.out m (by omega)
     have HLL:Hid (lnL ls ss (j+1)=lnL ls ss j ++ [lineS (lnL ls ss j) (ss.getD j ([],0))]):=rfl
     have hll:(lnL ls ss j).length=ys.length:=by rw[←hfs.out,lforms_len]
     generalize hLJ:lnL ls ss j=ls9 at hfs HLK hbad hok1 HLL hll
     generalize hSJ:ss.getD j ([],0)=s at c0 c1 hpm hli hbad hok1 HLL
     obtain⟨ps,div⟩:=s
     simp only at c0 c1 hpm hli
     have hsz:(wo.alloc (.cells #[.slice ta ps.length tcap,.int .i64 div] 104)).heap.size=wo.heap.size+1:=by simp
     have hbp:Below wo.heap.size wo (wo.alloc (.cells #[.slice ta ps.length tcap,.int .i64 div] 104)):=(Below.refl _ wo).alloc (Nat.le_refl _) _
     have BP:Hid (Below w.heap.size w (wo.alloc (.cells #[.slice ta ps.length tcap,.int .i64 div] 104))):=hbel.trans (hbp.mono hz)
     have RP:Hid (LRow w.heap.size ys u6 (wo.alloc (.cells #[.slice ta ps.length tcap,.int .i64 div] 104))):=hrow.out.below hbp
     obtain⟨ya,ycap,hu6,hyll⟩:=RP.out.llies
     rw[hfs.out]at hyll
     subst hu6
     have hpz:wo.heap.size<(wo.alloc (.cells #[.slice ta ps.length tcap,.int .i64 div] 104)).heap.size:=by omega
     have PZ:=Lib.hid (heap_alloc_new wo (.cells #[.slice ta ps.length tcap,.int .i64 div] 104))
     by_cases hx0:tellS ls9 (ps,div)=0
     ·have hti:=tell_is ls9 (ps,div) hx0
      rw[hll]at hti
      have HT:=Lib.hid (tell_any ya ys.length ycap ls9 ta ps.length tcap ps div (wo.alloc (.cells #[.slice ta ps.length tcap,.int .i64 div] 104)) hll (by omega) hyll HLK.out rfl hpm ((hli.below BP.out).mono BP.out.size) _ rfl _ _ _ hti)
      have hok2:=hok1 hx0
      clear hti hbad hok1 hyll hli hpm hbp hsz HS HLI hx0 HLK hrow hb hbel
      go_wp2_with fail
      generalize wo.alloc (.cells #[.slice ta ps.length tcap,.int .i64 div] 104)=wp at BP RP PZ HT hpz⊢
      have p0:wp.cell? ⟨wo.heap.size,0,none⟩=some (.slice ta ps.length tcap):=by rw[cell_of_row _ _ _ _ _ _ PZ.out];rfl
      have p1:wp.cell? ⟨wo.heap.size,1,none⟩=some (.int .i64 div):=by rw[cell_of_row _ _ _ _ _ _ PZ.out];rfl
      generalize wo.heap.size=P at hpz p0 p1 hz⊢
      clear c0 c1 PZ
      go_wp2_with fail
      refine HT.out.mono ?_
      rintro e w7 ⟨v7,rfl,hr7,hb7⟩
      rw[codeV_zero]
      obtain⟨a7,cap7,rfl,hl7⟩:=hr7.liesC
      have HLX:Hid (lnL ls ss (j+1)=ls9 ++ [((lineS ls9 (ps,div)).1,(lineS ls9 (ps,div)).2)]):=HLL.out
      generalize (lineS ls9 (ps,div)).1=C at HLX⊢
      generalize (lineS ls9 (ps,div)).2=E at HLX hl7⊢
      have B7:=Lib.hid hb7
      have HL7:=Lib.hid hl7
      have W2:Hid (Below w7.heap.size w7 ((w7.alloc (.cells #[.int .i64 C,.slice a7 E.length cap7] 36)).alloc (.cells #[.int .i64 C,.slice a7 E.length cap7] 36))):=((Below.refl _ w7).alloc (Nat.le_refl _) _).alloc (by simp) _
      have HRW:Hid (((w7.alloc (.cells #[.int .i64 C,.slice a7 E.length cap7] 36)).alloc (.cells #[.int .i64 C,.slice a7 E.length cap7] 36)).ownsRow w.heap.size 36 2 (.slice ya ys.length ycap) ys.length (lcells ys)):=((RP.out.below B7.out).below W2.out).row
      have NEWS:=Lib.hid (lin_new (w7.alloc (.cells #[.int .i64 C,.slice a7 E.length cap7] 36)) C a7 E.length cap7 36 (w7.heap.size+1) (by simp))
      have HBZ:Hid (w.heap.size≤((w7.alloc (.cells #[.int .i64 C,.slice a7 E.length cap7] 36)).alloc (.cells #[.int .i64 C,.slice a7 E.length cap7] 36)).heap.size):=Nat.le_trans (Nat.le_trans BP.out.size B7.out.size) W2.out.size
      clear hr7 hb7 hl7 HT HLL p0 p1
      go_wp2_with (at_builtin;refine wpList_append_lies _ rfl _ _ 22 rfl w.heap.size 36 i0 _ 2 32 Tryz.underlying22 hi hz0 hz1 hz2 rfl (by omega) (.slice ya ys.length ycap) ys.length (lcells ys) rfl HRW.out ⟨w7.heap.size+1,0,none⟩ 1 1 [.int .i64 C,.slice a7 E.length cap7] rfl rfl NEWS.out (lin_one _ _ _ _) (by omega) (by unfold maxLen;omega) (by omega) HBZ.out (w7.heap.size+1+1) (by simp) ?_)
      intro gg cap6 w6 hown6 hgrow6 hat6 hlt6
      have RN:Hid (LRow w.heap.size (ys ++ [⟨C,a7,cap7,E⟩]) (.slice (some ⟨gg,0,none⟩) (ys.length+1) cap6) w6):=
       LRow.step (x:=⟨C,a7,cap7,E⟩) (w5:=(w7.alloc (.cells #[.int .i64 C,.slice a7 E.length cap7] 36)).alloc (.cells #[.int .i64 C,.slice a7 E.length cap7] 36)) (g:=gg) (H:=w7.heap.size+1+1) RP.out BP.out.size (B7.out.trans (W2.out.mono B7.out.size)) (HL7.out.keep (fun b ⟨h1,h2⟩=>⟨h1,Nat.lt_of_lt_of_le h2 W2.out.size⟩) (fun b o ⟨h1,h2⟩=>W2.out.cell (p:=⟨b,o,none⟩) h2)) hgrow6 (by simp) rfl hat6 hown6
      have BN:Hid (Below w.heap.size w w6):=((BP.out.trans (B7.out.mono BP.out.size)).trans (W2.out.mono (Nat.le_trans BP.out.size B7.out.size))).grown hgrow6 HBZ.out (fun g hg=>(World.ownsRow.lt RP.out.row g hg).1)
      have FN:Hid (lforms (ys ++ [⟨C,a7,cap7,E⟩])=lnL ls ss (j+1)):=by
       show _=_
       rw[lforms_append,hfs.out,HLX.out];rfl
      clear hown6 hgrow6 hat6 hlt6 HRW NEWS HBZ HL7 B7 W2
      go_wp2_with fail
      go_roundw
      case rel=>exact⟨j+1,_,by omega,by go_num,RN,FN,hok2,BN⟩
      case measure=>simp[intOf];omega
     ·have hti:=tell_is_bad ls9 (ps,div) hx0
      rw[hll]at hti
      have HT:=Lib.hid (tell_any ya ys.length ycap ls9 ta ps.length tcap ps div (wo.alloc (.cells #[.slice ta ps.length tcap,.int .i64 div] 104)) hll (by omega) hyll HLK.out rfl hpm ((hli.below BP.out).mono BP.out.size) _ rfl _ _ _ hti)
      obtain⟨hxe,rfl,rfl⟩:=hbad hx0
      have HXE:=Lib.hid hxe
      generalize tellS ls9 (ps,div)=X at HT hx0 HXE hxe
      clear hti hbad hok1 hyll hli hpm hbp hsz HS HLI HLK hrow hb hbel hxe
      go_wp2_with fail
      generalize wo.alloc (.cells #[.slice ta ps.length tcap,.int .i64 div] 104)=wp at BP RP PZ HT hpz⊢
      have p0:wp.cell? ⟨wo.heap.size,0,none⟩=some (.slice ta ps.length tcap):=by rw[cell_of_row _ _ _ _ _ _ PZ.out];rfl
      have p1:wp.cell? ⟨wo.heap.size,1,none⟩=some (.int .i64 div):=by rw[cell_of_row _ _ _ _ _ _ PZ.out];rfl
      generalize wo.heap.size=P at hpz p0 p1 hz⊢
      clear c0 c1 PZ
      go_wp2_with fail
      refine HT.out.mono ?_
      rintro e w7 ⟨v7,rfl,hr7,hb7⟩
      rw[codeV_ne hx0]
      obtain⟨a7,cap7,rfl,hl7⟩:=hr7.liesC
      have hb9:=((Below.refl _ w7).alloc (Nat.le_refl _) (.cells #[.int .i64 0,.slice a7 ([]:List (Int×Int)).length cap7] 36))
      have BE:Hid (Below w7.heap.size w7 ((w7.alloc (.cells #[.int .i64 0,.slice a7 ([]:List (Int×Int)).length cap7] 36)).alloc (.cells #[.int .i64 j,.iface 60 (.int .i64 X)] 79))):=hb9.alloc hb9.size _
      have hze:=heap_alloc_new (w7.alloc (.cells #[.int .i64 0,.slice a7 ([]:List (Int×Int)).length cap7] 36)) (.cells #[.int .i64 j,.iface 60 (.int .i64 X)] 79)
      have hzs:(w7.alloc (.cells #[.int .i64 0,.slice a7 ([]:List (Int×Int)).length cap7] 36)).heap.size=w7.heap.size+1:=by simp
      rw[hzs]at hze
      have ZE:=Lib.hid hze
      have B7:Hid (Below w.heap.size w w7):=BP.out.trans (hb7.mono BP.out.size)
      clear hr7 hb7 hl7 HT HLL p0 p1 hb9 hze hzs
      go_wp2_with fail
      go_ret2
      refine⟨_,_,[],rfl,LRow.nil _ _,rfl,⟨fun h=>absurd h (by omega),fun _=>⟨w7.heap.size+1,rfl,Nat.le_succ_of_le B7.out.size,lt_of_some ZE.out,(cell_of_row _ _ _ _ _ _ ZE.out).trans rfl,(cell_of_row _ _ _ _ _ _ ZE.out).trans ?_⟩⟩,B7.out.trans (BE.out.mono B7.out.size)⟩
      rw[HXE.out,codeV_ne hx0];rfl
    ·obtain rfl:j=sn:=by omega
     obtain⟨rfl,rfl,rfl⟩:=HLI.out.isOk (by rw[HN.out];exact h1) (by rw[HSN.out];exact h2) HOK.out (fun m hm=>hok.out m (by rw[HSN.out]at hm;exact hm))
     have HFE:Hid (lforms ys=lnL ls ss ss.length):=by show _=_;rw[hfs.out,HSN.out]
     go_wp2_with fail
     go_ret2
     exact⟨_,_,ys,rfl,hrow.out,HFE.out,⟨fun _=>rfl,fun h=>absurd h (by omega)⟩,hb.out⟩
end Cut
namespace Cut
open Go.RowKit Go.Maps
structure Given (B:Nat)(w:World)(a:Option Addr)(n:Nat)(ls:List (Int×List (Int×Int)))(sa:Option Addr)(sn:Nat)(ss:List (List (Int×Int)×Int)):Prop where
 ln:ls.length=n
 ll:LLies B w a ls
 lm:∀i,i<n→(ls.getD i (0,[])).2.length≤9223372036854775807
 sl:ss.length=sn
 sll:SLies B w sa ss
 nm:n≤9223372036854775807
 sm:sn≤9223372036854775807
theorem SLies.mono {B B':Nat}{w:World}{a:Option Addr}{ss:List (List (Int×Int)×Int)}(h:SLies B w a ss)(hB:B≤B'):SLies B' w a ss:=fun i hi=>by
 obtain⟨b,off,ta,tcap,ha,hlt,hm,h1,h2,h3⟩:=h i hi
 exact⟨b,off,ta,tcap,ha,by omega,hm,h1,h2,h3.mono hB⟩
theorem lines_any (a:Option Addr)(n cap:Nat)(ls:List (Int×List (Int×Int)))(sa:Option Addr)(sn scap:Nat)(ss:List (List (Int×Int)×Int))(w:World)(h:Given w.heap.size w a n ls sa sn ss)(x at':Int)(L:List (Int×List (Int×Int)))(hL:LinesIs ls ss x at' L):
 Calls Tryz.prog 89 #[.slice a n cap,.slice sa sn scap] w (LinesEnd w.heap.size x at' L w):=by
 by_cases hl:4096<n∨4096<sn
 ·have:=lines_long a n cap ls sa sn scap ss w hl
  cases hL with
  | long _=>exact this
  | prem i g1 g2=>rw[h.ln]at g1;rw[h.sl]at g2;omega
  | step i g1 g2=>rw[h.ln]at g1;rw[h.sl]at g2;omega
  | ok g1 g2=>rw[h.ln]at g1;rw[h.sl]at g2;omega
 ·exact lines_walk a n cap ls sa sn scap ss w h.ln (by omega) h.ll h.lm h.sl (by omega) h.sll x at' L hL
theorem LinesIs.zero {ls ss at' L}{x:Int}(h:LinesIs ls ss x at' L)(hx:x=0):at'= -1∧lsOk ls∧(∀j,j<ss.length→tellS (lnL ls ss j) (ss.getD j ([],0))=0)∧L=lnL ls ss ss.length∧L.length≤8192:=by
 cases h with
 | long _=>cases hx
 | prem _=>cases hx
 | step _ _ _ _ _ _ g=>exact absurd hx g
 | ok g1 g2 g3 g4=>exact⟨rfl,g3,g4,rfl,by rw[lnL_len];omega⟩
def hasR (L:List (Int×List (Int×Int))):Bool:=L.any fun l=>decide (l.2.length=0∧0<l.1)
def refX (x:Int)(L:List (Int×List (Int×Int))):Int:=if x=0 then(if hasR L=true then 0 else 8) else x
theorem hasR_at {L:List (Int×List (Int×Int))}{i:Nat}(hi:i<L.length)(h:(L.getD i (0,[])).2.length=0∧0<(L.getD i (0,[])).1):hasR L=true:=by
 refine List.any_eq_true.2 ⟨L[i],List.getElem_mem hi, ?_⟩
 simp only[List.getD_eq_getElem?_getD,List.getElem?_eq_getElem hi,Option.getD_some]at h
 exact decide_eq_true h
theorem hasR_none {L:List (Int×List (Int×Int))}(h:∀i,i<L.length→¬((L.getD i (0,[])).2.length=0∧0<(L.getD i (0,[])).1)):hasR L=false:=by
 refine List.any_eq_false.2 fun l hl=> ?_
 obtain⟨i,hi,rfl⟩:=List.getElem_of_mem hl
 have:=h i hi
 simp only[List.getD_eq_getElem?_getD,List.getElem?_eq_getElem hi,Option.getD_some]at this
 simpa using this
def RefEnd (B:Nat)(x at':Int)(w:World)(e:Ending)(w':World):Prop:=∃er,e= .returned er∧ErrIs B x at' er w'∧Below B w w'
theorem Tryz.neIface (t:TypeId)(v:Value)(w:World):(binOp .neq 26 (.iface t v) .nilIface).run Tryz.prog w= .ok (.bool true) w:=by simp[go_sem]
theorem ErrIs.iface {B:Nat}{x at':Int}{er:Value}{w:World}(h:ErrIs B x at' er w)(hx:x≠0):∃t v,er= .iface t v:=by
 by_cases ha:at'<0
 ·exact⟨_,_,(h.1 ha).trans (codeV_ne hx)⟩
 ·obtain⟨g,e,_⟩:=h.2 (by omega)
  exact⟨_,_,e⟩
theorem refutes_any (a:Option Addr)(n cap:Nat)(ls:List (Int×List (Int×Int)))(sa:Option Addr)(sn scap:Nat)(ss:List (List (Int×Int)×Int))(w:World)(h:Given w.heap.size w a n ls sa sn ss)(x at':Int)(L:List (Int×List (Int×Int)))(hL:LinesIs ls ss x at' L):
 Calls Tryz.prog 57 #[.slice a n cap,.slice sa sn scap] w (RefEnd w.heap.size (refX x L) at' w):=by
 have HLN:=Lib.hid (lines_any a n cap ls sa sn scap ss w h x at' L hL)
 have n1:=fun t v W=>Tryz.neIface t v W
 by_cases hx:x=0
 ·obtain⟨rfl,_,_,_,hLm⟩:=hL.zero hx
  subst hx
  have HX0:Hid (hasR L=true→refX 0 L=0):=fun h=>by unfold refX;rw[if_pos rfl,if_pos h]
  have HX8:Hid (hasR L=false→refX 0 L=8):=fun h=>by unfold refX;rw[if_pos rfl,if_neg (by rw[h];decide)]
  generalize refX 0 L=y at HX0 HX8
  clear h hL
  go_enter Tryz.func57,Tryz.ntmps57
  go_wp2_with fail
  refine HLN.out.mono ?_
  rintro e w1 ⟨v,er,xs,rfl,hrow,hfs,her,hb1⟩
  rw[her.1 (by omega),codeV_zero]
  obtain⟨la,lcap,rfl,hll⟩:=hrow.llies
  rw[hfs]at hll
  have hxl:L.length=xs.length:=by rw[←hfs,lforms_len]
  have HB:=Lib.hid hb1
  have HLL:=Lib.hid hll
  have hxm:xs.length≤8192:=by omega
  have HXL:=Lib.hid hxl
  clear hrow hfs her hb1 hll HLN hxl
  go_wp2_with fail
  go_loopw [20] (fun i wr=>∃(k:Nat),k≤xs.length∧i= .int .i64 k∧Hid (∀j,j<k→¬((L.getD j (0,[])).2.length=0∧0<(L.getD j (0,[])).1))∧Hid (Below w1.heap.size w1 wr)) (fun i _=>xs.length - (intOf i).toNat)
  case atStart=>exact⟨0,Nat.zero_le _,rfl,fun j hj=>absurd hj (Nat.not_lt_zero _),Below.refl _ _⟩
  case round=>
   obtain⟨k,hk,rfl,hno,hb⟩:=hrel
   by_cases hlt:k<xs.length
   ·obtain⟨b,off,ta,tcap,rfl,hblt,c0,c1,_⟩:=(HLL.out.below hb.out) k (by rw[HXL.out];exact hlt)
    have hyes:(L.getD k (0,[])).2.length=0∧0<(L.getD k (0,[])).1→y=0:=fun h=>HX0.out (hasR_at (by rw[HXL.out];exact hlt) h)
    have hnot:¬((L.getD k (0,[])).2.length=0∧0<(L.getD k (0,[])).1)→Hid (∀j,j<k+1→¬((L.getD j (0,[])).2.length=0∧0<(L.getD j (0,[])).1)):=fun h j hj=>by
     by_cases e:j=k
     ·subst e;exact h
     ·exact hno.out j (by omega)
    generalize (L.getD k (0,[])).1=C at c0 hyes hnot
    generalize (L.getD k (0,[])).2.length=m at c1 hyes hnot
    have HBA:Hid (Below w1.heap.size w1 (wr.alloc (.cells #[.int .i64 C,.slice ta m tcap] 36))):=hb.out.alloc hb.out.size _
    by_cases hm:m=0
    ·subst hm
     by_cases hC:0<C
     ·obtain rfl:=hyes ⟨rfl,hC⟩
      clear hyes hnot
      go_wp2_with fail
      go_ret
      exact⟨_,rfl,⟨fun _=>rfl,fun h=>absurd h (by omega)⟩,HB.out.trans (HBA.out.mono HB.out.size)⟩
     ·have HN:=hnot (fun h=>hC h.2)
      clear hyes hnot
      go_wp2_with fail
      refine⟨⟨k+1,by omega,by go_num,HN,HBA⟩,by simp[intOf];omega⟩
    ·have HN:=hnot (fun h=>hm h.1)
     have hm':¬((m:Int)=0):=by omega
     clear hyes hnot
     go_wp2_with fail
     refine⟨⟨k+1,by omega,by go_num,HN,HBA⟩,by simp[intOf];omega⟩
   ·obtain rfl:k=xs.length:=by omega
    obtain rfl:=HX8.out (hasR_none (fun i hi=>hno.out i (by rw[HXL.out]at hi;exact hi)))
    go_wp2_with fail
    go_ret
    exact⟨_,rfl,⟨fun _=>rfl,fun h=>absurd h (by omega)⟩,HB.out.trans (hb.out.mono HB.out.size)⟩
 ·have HX:Hid (refX x L=x):=if_neg hx
  generalize refX x L=y at HX
  clear h hL
  go_enter Tryz.func57,Tryz.ntmps57
  go_wp2_with fail
  refine HLN.out.mono ?_
  rintro e w1 ⟨v,er,xs,rfl,hrow,hfs,her,hb1⟩
  obtain⟨t9,v9,rfl⟩:=her.iface hx
  have HE:=Lib.hid her
  have HB:=Lib.hid hb1
  clear her hb1 hrow hfs HLN
  go_wp2_with fail
  go_ret
  exact⟨_,rfl,by rw[HX.out];exact HE.out,HB.out⟩
end Cut
end Go.Proofs.YtipahfcaplbifaaGreatDoor
