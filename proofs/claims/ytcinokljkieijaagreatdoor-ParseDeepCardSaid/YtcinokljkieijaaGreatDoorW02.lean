/- Parts of a proof. -/
import Derived.Test.YtcinokljkieijaaGreatDoorW01
import Derived.Deep.CutBlock
import Derived.Deep.CutRange
import Derived.Deep.DeepCutAuto
set_option linter.unusedVariables false
set_option linter.unusedSimpArgs false
set_option maxHeartbeats 60000000
set_option maxRecDepth 100000
namespace Go.Proofs.YtcinokljkieijaaGreatDoor
section
open Go.RowKit
theorem rscan_any (s:ByteArray)(w:World)(hs:s.size≤9223372036854775807):Calls Tryz.prog 24 #[.string s] w (RScanEnd (resOf s) w):=by
 by_cases hbig:65536<s.size
 ·have hr:resOf s=(2, -1,[]):=if_pos hbig
  rw[hr]
  have hi:(65536:Int)<(s.size:Int):=by omega
  go_enter Tryz.func24,Tryz.ntmps24
  go_wp2
  exact bodyPost_ret (v:= .tuple #[.slice none 0 0,.int .i64 2,.int .i64 (-1)]) (by simp[results,Tryz.results24,go_sem]) rfl ⟨_,rfl,TRow.nil _ _,Below.refl _ _⟩
 ·have hr:resOf s=resR (scanF s.data.toList.length s.data.toList 0 []):=if_neg hbig
  rw[hr]
  have hst:=Lib.hid (At.start s)
  generalize scanF s.data.toList.length s.data.toList 0 []=R at hst⊢
  have hi:¬(65536:Int)<(s.size:Int):=by omega
  have HWD:=Lib.hid (fun(i:Nat) W (h:i≤s.size)=>rword_any s i W (by omega) h)
  have HOP:=Lib.hid (fun(i:Nat) W (h:i<s.size)=>rop_any s i W (by omega) h)
  have HDG:=Lib.hid (fun(c:UInt8) W=>rdig_any c W)
  have HLT:=Lib.hid (fun(c:UInt8) W=>rletter_any c W)
  have HKY:=Lib.hid (fun(t:ByteArray) W=>rkey_any t W)
  have HIX:Hid (∀(i:Nat) (h:i<s.size) W,(Instr.index 9 (.string s) (.int .i64 (i:Int))).run Tryz.prog W= .ok (.int .u8 ((s.data.toList[i]'(by rw[size_l];exact h)).toNat:Int)) W):=fun i h W=>by
   rw[run_index_string W _ s .i64 _ Tryz.underlying9,dif_pos ⟨by omega,by omega⟩]
   rfl
  obtain⟨i0,hi0,hz0,hz1,hz2⟩:=info_parts Tryz.infoTok
  clear hr
  go_enter Tryz.func24,Tryz.ntmps24
  go_wp2_with fail
  go_loopw [5,6] (fun o iv wr=>∃(i:Nat) (ts:List Tok),i≤s.size∧iv= .int .i64 i∧Hid (At s R i ts)∧Hid (TRow w.heap.size ts o wr)∧Hid (Below w.heap.size w wr)) (fun _ iv _=>s.size - (intOf iv).toNat)
  case atStart=>exact⟨0,[],Nat.zero_le _,rfl,hst.out,TRow.nil _ _,Below.refl _ _⟩
  case round=>
   clear hst
   obtain⟨i,ts,hile,rfl,hat,hrow,hbr⟩:=hrel
   obtain⟨wo,rfl⟩:∃wo:World,wo=wr:=⟨_,rfl⟩
   by_cases hlt:i<s.size
   ·have hlti:(i:Int)<(s.size:Int):=by omega
    have hil:i<s.data.toList.length:=by rw[size_l];exact hlt
    obtain⟨c,hc⟩:∃c,s.data.toList[i]=c:=⟨_,rfl⟩
    obtain⟨r,hr⟩:∃r,s.data.toList.drop (i+1)=r:=⟨_,rfl⟩
    have hcons:s.data.toList.drop i=c :: r:=by rw[cons_of hil,hc,hr]
    have hix:=HIX.out i hlt
    rw[hc]at hix
    have HW1:=Lib.hid (HWD.out i wo hile)
    have HO1:=Lib.hid (HOP.out i wo hlt)
    rw[hcons]at HW1 HO1
    obtain⟨N,hN⟩:∃N,wordN (c :: r)=N:=⟨_,rfl⟩
    obtain⟨D,hD⟩:∃D,runN isDig (c :: r)=D:=⟨_,rfl⟩
    rw[hN]at HW1
    have hNl:i+N≤s.size:=by have:=wordN_le (c :: r);rw[←hcons,List.length_drop,size_l,hcons,hN]at this;omega
    have hDl:i+D≤s.size:=by have:=runN_le isDig (c :: r);rw[←hcons,List.length_drop,size_l,hcons,hD]at this;omega
    have HDL:Hid (∀k,k<D→∃h:i+k<s.data.toList.length,isDig (s.data.toList[i+k])=true):=fun k hk=>by
     obtain⟨h1,h2⟩:=runN_lt (p:=isDig) (l:=s.data.toList.drop i) (k:=k) (by rw[hcons,hD];exact hk)
     rw[List.length_drop]at h1
     exact⟨by omega,by rw[List.getElem_drop]at h2;exact h2⟩
    have HDA:Hid (∀h:i+D<s.data.toList.length,isDig (s.data.toList[i+D])=false):=fun h=>by
     have h2:=runN_at (p:=isDig) (l:=s.data.toList.drop i) (by rw[hcons,hD,←hcons,List.length_drop];omega)
     simp only[hcons,hD]at h2
     rw[←h2]
     have e:=List.getElem_drop (xs:=s.data.toList) (i:=i) (j:=D) (h:=by rw[List.length_drop];omega)
     rw[←e]
     congr 1
     simp only[hcons]
    have HN:=Lib.hid hN
    have HD:=Lib.hid hD
    have HCONS:=Lib.hid hcons
    have HR':=Lib.hid hr
    have hfew:ts.length≤65536:=by have:=hat.out.few;omega
    clear hN hD hcons hr hc hil
    go_wp2_with fail
    refine HW1.out.mono ?_
    rintro e w1 ⟨rfl,rfl⟩
    clear HW1
    go_upto_block 2 with fail
    go_cut [9] (fun kv wx=>wo=wx∧kv= .int .i64 D)
    case first=>as_aux_lemma=>
     go_wp2_with fail
     go_loop [9] (fun kv=>∃k:Nat,k≤D∧kv= .int .i64 k) (fun kv=>D - (intOf kv).toNat)
     case atStart=>exact⟨0,Nat.zero_le _,rfl⟩
     case round=>
      obtain⟨k,hk,rfl⟩:=hrel
      by_cases hin:i+k<s.size
      ·have hini:(i:Int)+(k:Int)<(s.size:Int):=by omega
       have hixk:=HIX.out (i+k) hin
       have ec:((i+k:Nat):Int)=(i:Int)+(k:Int):=by omega
       rw[ec]at hixk
       obtain⟨ck,hck⟩:∃ck,s.data.toList[i+k]'(by rw[size_l];exact hin)=ck:=⟨_,rfl⟩
       rw[hck]at hixk
       have HG:=Lib.hid (HDG.out ck wo)
       by_cases hkD:k<D
       ·obtain⟨_,hd⟩:=HDL.out k hkD
        rw[hck]at hd
        rw[hd]at HG
        clear hd hck ec
        go_wp2_with fail
        refine HG.out.mono ?_
        rintro e w2 ⟨rfl,rfl⟩
        go_wp2_with fail
        go_round
        case rel=>exact⟨k+1,by omega,by go_num⟩
        case measure=>simp[intOf];omega
       ·obtain rfl:D=k:=by omega
        have hd:=HDA.out (by rw[size_l];exact hin)
        rw[hck]at hd
        rw[hd]at HG
        clear hd hck ec
        go_wp2_with fail
        refine HG.out.mono ?_
        rintro e w2 ⟨rfl,rfl⟩
        go_wp2_with fail
        go_meet
        case rel=>exact⟨rfl,rfl⟩
      ·obtain rfl:D=k:=by omega
       have hini:¬(i:Int)+(D:Int)<(s.size:Int):=by omega
       go_wp2_with fail
       go_meet
       case rel=>exact⟨rfl,rfl⟩
    case rest=>as_aux_lemma=>
     obtain⟨rfl,rfl⟩:=hcut
     go_wp2_with fail
     refine HO1.out.mono ?_
     rintro e w3 ⟨o,rfl,ho,hb3⟩
     have B3:=Lib.hid (hbr.out.trans (hb3.mono hbr.out.size))
     have R3:=Lib.hid (hrow.out.below hb3)
     have HO:=Lib.hid ho
     obtain⟨a4,c4,hu4⟩:=R3.out.slice
     subst hu4
     clear hb3 ho HO1 hrow hbr HWD HOP
     by_cases hbl:isBl c=true
     ·have AN:=Lib.hid (hat.out.skip1 hlt (by rw[HCONS.out];exact stp_bl hbl) (Nat.le_refl 1))
      rcases(isBl_x (x:=(c.toNat:Int)) rfl).1 hbl with e | e | e
      ·have f1:((c.toNat:Int) == 32)=true:=by rw[e];rfl
       clear e hbl hat
       go_wp2_with fail
       go_roundw
       case rel=>first | exact⟨i+1,_,AN.out.le,by go_num,AN,R3,B3⟩ | ((repeat apply Exists.intro);exact⟨⟨i+1,_,AN.out.le,by go_num,AN,R3,B3⟩,rfl⟩)
       case measure=>simp[intOf];omega
      ·have f1:((c.toNat:Int) == 32)=false:=by rw[e];rfl
       have f2:((c.toNat:Int) == 9)=true:=by rw[e];rfl
       clear e hbl hat
       go_wp2_with fail
       go_roundw
       case rel=>first | exact⟨i+1,_,AN.out.le,by go_num,AN,R3,B3⟩ | ((repeat apply Exists.intro);exact⟨⟨i+1,_,AN.out.le,by go_num,AN,R3,B3⟩,rfl⟩)
       case measure=>simp[intOf];omega
      ·have f1:((c.toNat:Int) == 32)=false:=by rw[e];rfl
       have f2:((c.toNat:Int) == 9)=false:=by rw[e];rfl
       have f3:((c.toNat:Int) == 10)=true:=by rw[e];rfl
       clear e hbl hat
       go_wp2_with fail
       go_roundw
       case rel=>first | exact⟨i+1,_,AN.out.le,by go_num,AN,R3,B3⟩ | ((repeat apply Exists.intro);exact⟨⟨i+1,_,AN.out.le,by go_num,AN,R3,B3⟩,rfl⟩)
       case measure=>simp[intOf];omega
     ·have hblf:isBl c=false:=by simpa using hbl
      have hnb:¬((c.toNat:Int)=32∨(c.toNat:Int)=9∨(c.toNat:Int)=10):=fun e=>hbl ((isBl_x (x:=(c.toNat:Int)) rfl).2 e)
      have f1:((c.toNat:Int) == 32)=false:=by rw[Bool.eq_false_iff];simp only[ne_eq,beq_iff_eq];omega
      have f2:((c.toNat:Int) == 9)=false:=by rw[Bool.eq_false_iff];simp only[ne_eq,beq_iff_eq];omega
      have f3:((c.toNat:Int) == 10)=false:=by rw[Bool.eq_false_iff];simp only[ne_eq,beq_iff_eq];omega
      clear hnb hbl
      by_cases h47:c.toNat=47
      ·have f4:((c.toNat:Int) == 47)=true:=by simp only[beq_iff_eq];omega
       by_cases hcm:r.head? =some 47
       ·as_aux_lemma=>
         have hin:i+1<s.size:=by
          rw[←HR'.out,List.head?_drop]at hcm
          have:=(List.getElem?_eq_some_iff.1 hcm).1
          rwa [size_l]at this
         have hini:(i:Int)+1<(s.size:Int):=by omega
         have hix2:∀W,(Instr.index 9 (.string s) (.int .i64 ((i:Int)+1))).run Tryz.prog W= .ok (.int .u8 47) W:=fun W=>by
          have:=HIX.out (i+1) hin W
          rw[show((i+1:Nat):Int)=(i:Int)+1 by omega]at this
          rw[this]
          rw[←HR'.out,List.head?_drop]at hcm
          obtain⟨_,e⟩:=List.getElem?_eq_some_iff.1 hcm
          rw[e];rfl
         obtain⟨q1,q2⟩:=stp_cm h47 hcm
         have AN:=Lib.hid (hat.out.skip1 hlt (by rw[HCONS.out];exact q1) q2)
         obtain⟨M,hM⟩:∃M,runN notNl (c :: r)=M:=⟨_,rfl⟩
         rw[hM]at AN q2
         have HML:Hid (∀k,k<M→∃h:i+k<s.data.toList.length,notNl (s.data.toList[i+k])=true):=fun k hk=>by
          obtain⟨h1,h2⟩:=runN_lt (p:=notNl) (l:=s.data.toList.drop i) (k:=k) (by rw[HCONS.out,hM];exact hk)
          rw[List.length_drop]at h1
          exact⟨by omega,by rw[List.getElem_drop]at h2;exact h2⟩
         have HMA:Hid (∀h:i+M<s.data.toList.length,notNl (s.data.toList[i+M])=false):=fun h=>by
          have h2:=runN_at (p:=notNl) (l:=s.data.toList.drop i) (by rw[HCONS.out,hM,←HCONS.out,List.length_drop];omega)
          simp only[HCONS.out,hM]at h2
          rw[←h2]
          have e:=List.getElem_drop (xs:=s.data.toList) (i:=i) (j:=M) (h:=by rw[List.length_drop];omega)
          rw[←e]
          congr 1
          simp only[HCONS.out]
         have hMl:i+M≤s.size:=AN.out.le
         clear q1 hcm hM h47 hblf hat HN HD HO HCONS HR' HDL HDA
         go_wp2_with fail
         go_loop [6] (fun iv=>∃k:Nat,k≤M∧iv= .int .i64 ((i:Int)+(k:Int))) (fun iv=>i+M - (intOf iv).toNat)
         case atStart=>exact⟨0,Nat.zero_le _,by simp⟩
         case round=>
          obtain⟨k,hk,rfl⟩:=hrel
          by_cases hin:i+k<s.size
          ·have hini:(i:Int)+(k:Int)<(s.size:Int):=by omega
           have hixk:=HIX.out (i+k) hin
           have ec:((i+k:Nat):Int)=(i:Int)+(k:Int):=by omega
           rw[ec]at hixk
           obtain⟨ck,hck⟩:∃ck,s.data.toList[i+k]'(by rw[size_l];exact hin)=ck:=⟨_,rfl⟩
           rw[hck]at hixk
           by_cases hkM:k<M
           ·obtain⟨_,hd⟩:=HML.out k hkM
            rw[hck]at hd
            have f9:((ck.toNat:Int) != 10)=true:=by
             simp only[notNl,Bool.not_eq_true',decide_eq_false_iff_not]at hd
             simp only[bne_iff_ne,ne_eq];omega
            clear hd hck ec
            go_wp2_with fail
            go_round
            case rel=>exact⟨k+1,by omega,by go_num⟩
            case measure=>simp[intOf];omega
           ·obtain rfl:M=k:=by omega
            have hd:=HMA.out (by rw[size_l];exact hin)
            rw[hck]at hd
            have f9:((ck.toNat:Int) != 10)=false:=by
             simp only[notNl,Bool.not_eq_false',decide_eq_true_eq]at hd
             rw[hd];rfl
            clear hd hck ec
            go_wp2_with fail
            go_roundw
            case rel=>first | exact⟨i+M,_,AN.out.le,by go_num,AN,R3,B3⟩ | ((repeat apply Exists.intro);exact⟨⟨i+M,_,AN.out.le,by go_num,AN,R3,B3⟩,rfl⟩)
            case measure=>simp[intOf];omega
          ·obtain rfl:M=k:=by omega
           have hini:¬(i:Int)+(M:Int)<(s.size:Int):=by omega
           go_wp2_with fail
           go_roundw
           case rel=>first | exact⟨i+M,_,AN.out.le,by go_num,AN,R3,B3⟩ | ((repeat apply Exists.intro);exact⟨⟨i+M,_,AN.out.le,by go_num,AN,R3,B3⟩,rfl⟩)
           case measure=>simp[intOf];omega
       ·as_aux_lemma=>
         obtain⟨e1,e2,e3⟩:=slash_none (r:=r) h47
         obtain rfl:N=0:=by rw[←HN.out,e1]
         obtain rfl:D=0:=by rw[←HD.out,e2]
         have ho:o=⟨#[]⟩:=text_of (by rw[HO.out,e3,List.take_zero])
         subst ho
         have hns:=noSkip_c hblf (fun h=>hcm h.2)
         have HR:=Lib.hid (hat.out.bad hlt (by rw[HCONS.out,stp_op (by simp) hns e1 e2,if_pos e3]))
         by_cases hin:i+1<s.size
         ·have hini:(i:Int)+1<(s.size:Int):=by omega
          obtain⟨c2,hc2⟩:∃c2,s.data.toList[i+1]'(by rw[size_l];exact hin)=c2:=⟨_,rfl⟩
          have hix2:∀W,(Instr.index 9 (.string s) (.int .i64 ((i:Int)+1))).run Tryz.prog W= .ok (.int .u8 (c2.toNat:Int)) W:=fun W=>by
           have:=HIX.out (i+1) hin W
           rw[show((i+1:Nat):Int)=(i:Int)+1 by omega,hc2]at this
           exact this
          have f9:((c2.toNat:Int) == 47)=false:=by
           rw[Bool.eq_false_iff];simp only[ne_eq,beq_iff_eq]
           intro e
           refine hcm ?_
           rw[←HR'.out,List.head?_drop,List.getElem?_eq_getElem (by rw[size_l];exact hin),hc2,show c2=47 from UInt8.toNat_inj.1 (by show c2.toNat=47;omega)]
          clear e1 e2 e3 hns hcm hc2 h47 hblf hat HN HD HO HCONS HR' HDL HDA
          go_wp2
          exact bodyPost_ret (v:= .tuple #[.slice none 0 0,.int .i64 10,.int .i64 i]) (by simp[results,Tryz.results24,go_sem]) rfl ⟨_,by rw[HR.out];rfl,by rw[HR.out];exact TRow.nil _ _,B3.out⟩
         ·have hini:¬(i:Int)+1<(s.size:Int):=by omega
          clear e1 e2 e3 hns hcm h47 hblf hat HN HD HO HCONS HR' HDL HDA
          go_wp2
          exact bodyPost_ret (v:= .tuple #[.slice none 0 0,.int .i64 10,.int .i64 i]) (by simp[results,Tryz.results24,go_sem]) rfl ⟨_,by rw[HR.out];rfl,by rw[HR.out];exact TRow.nil _ _,B3.out⟩
      ·have f4:((c.toNat:Int) == 47)=false:=by rw[Bool.eq_false_iff];simp only[ne_eq,beq_iff_eq];omega
       have HNS:=Lib.hid (noSkip_c (r:=r) hblf (fun h=>h47 h.1))
       clear h47 hblf
       by_cases hN0:0<N
       ·as_aux_lemma=>
         have hNi:(0:Int)<(N:Int):=by omega
         have hst:=stp_word HNS.out (by rw[HN.out];exact hN0)
         rw[HN.out]at hst
         by_cases h32:32<N
         ·have h32i:(32:Int)<(N:Int):=by omega
          rw[if_pos h32]at hst
          have HR:=Lib.hid (hat.out.bad hlt (by rw[HCONS.out];exact hst))
          clear hst hat HN HD HO HCONS HR' HDL HDA HNS
          go_wp2
          exact bodyPost_ret (v:= .tuple #[.slice none 0 0,.int .i64 2,.int .i64 i]) (by simp[results,Tryz.results24,go_sem]) rfl ⟨_,by rw[HR.out];rfl,by rw[HR.out];exact TRow.nil _ _,B3.out⟩
         ·have h32i:¬(32:Int)<(N:Int):=by omega
          rw[if_neg h32]at hst
          have hsl:=fun W=>slice_mid (s:=s) (a:=i) (b:=i+N) (x:=(i:Int)) (y:=(i:Int)+(N:Int)) W rfl (by omega) (by omega) hNl
          obtain⟨t1,t2⟩:=ext_at hNl
          have HK:=Lib.hid (HKY.out (s.extract i (i+N)) w3)
          have HT:Hid (∀kd:Int,(if keyB (s.extract i (i+N)).data.toList then(2:Int) else 1)=kd→At s R (i+N) (ts ++ [⟨kd,i,s.extract i (i+N)⟩])):=fun kd hkd=>by
           refine hat.out.tok hlt (k:=kd) (n:=N) ?_ hN0 (by rw[List.length_drop,size_l];omega) t1
           rw[HCONS.out,hst,←hkd,t1,HCONS.out]
          clear hst t1 t2 hat HN HD HO HCONS HR' HDL HDA HNS HKY
          generalize s.extract i (i+N)=T at*
          cases hk:keyB T.data.toList with
          | true=>
            have AN:=Lib.hid (HT.out 2 (by rw[hk];rfl))
            rw[hk]at HK
            clear hk HT
            go_wp2_with fail
            refine HK.out.mono ?_
            rintro e w4 ⟨rfl,hb4⟩
            have B4:=Lib.hid (B3.out.trans (hb4.mono B3.out.size))
            have R4:=Lib.hid (R3.out.below hb4)
            clear hb4 HK B3 R3
            have hbA:Below w4.heap.size w4 (w4.alloc (.cells #[.int .i64 2,.int .i64 i,.string T] 41)):=(Below.refl _ _).alloc (Nat.le_refl _) _
            have HRW:Hid ((w4.alloc (.cells #[.int .i64 2,.int .i64 i,.string T] 41)).ownsRow w.heap.size 41 3 (.slice a4 ts.length c4) ts.length (tcells ts)):=R4.out.below hbA
            have HBA:=Lib.hid (B4.out.trans (hbA.mono B4.out.size))
            have NEWS:=Lib.hid (World.news_of_block (cs:= #[.int .i64 2,.int .i64 i,.string T]) (t:=41) (fr:=(0,0)) (heap_alloc_new w4 _))
            have hzb:w.heap.size≤w4.heap.size:=B4.out.size
            clear hbA
            go_wp2_with (at_builtin;refine wpList_append_lies _ rfl _ _ 37 rfl w.heap.size 41 i0 _ 3 32 Tryz.underlying37 hi0 hz0 hz1 hz2 rfl (by omega) (.slice a4 ts.length c4) ts.length (tcells ts) rfl HRW.out ⟨w4.heap.size,0,none⟩ 1 1 [.int .i64 2,.int .i64 i,.string T] rfl rfl NEWS.out (by simp[Value.oneCell']) (by omega) (by unfold maxLen;omega) (by omega) (by simp;omega) (w4.heap.size+1) (by simp) ?_)
            intro gg cap6 w6 hown6 hgrow6 hat6 hlt6
            have B6:Hid (Below w.heap.size w w6):=HBA.out.grown hgrow6 (by simp;omega) (fun g hg=>(World.ownsRow.lt HRW.out g hg).1)
            have R6:=Lib.hid (TRow.step (x:=⟨2,i,T⟩) hown6)
            clear hown6 hgrow6 hat6 hlt6 HRW NEWS HBA
            go_wp2_with fail
            go_roundw
            case rel=>first | exact⟨i+N,_,AN.out.le,by go_num,AN,R6,B6⟩ | ((repeat apply Exists.intro);exact⟨⟨i+N,_,AN.out.le,by go_num,AN,R6,B6⟩,rfl⟩)
            case measure=>simp[intOf];omega
          | false=>
            have AN:=Lib.hid (HT.out 1 (by rw[hk];rfl))
            rw[hk]at HK
            clear hk HT
            go_wp2_with fail
            refine HK.out.mono ?_
            rintro e w4 ⟨rfl,hb4⟩
            have B4:=Lib.hid (B3.out.trans (hb4.mono B3.out.size))
            have R4:=Lib.hid (R3.out.below hb4)
            clear hb4 HK B3 R3
            have hbA:Below w4.heap.size w4 (w4.alloc (.cells #[.int .i64 1,.int .i64 i,.string T] 41)):=(Below.refl _ _).alloc (Nat.le_refl _) _
            have HRW:Hid ((w4.alloc (.cells #[.int .i64 1,.int .i64 i,.string T] 41)).ownsRow w.heap.size 41 3 (.slice a4 ts.length c4) ts.length (tcells ts)):=R4.out.below hbA
            have HBA:=Lib.hid (B4.out.trans (hbA.mono B4.out.size))
            have NEWS:=Lib.hid (World.news_of_block (cs:= #[.int .i64 1,.int .i64 i,.string T]) (t:=41) (fr:=(0,0)) (heap_alloc_new w4 _))
            have hzb:w.heap.size≤w4.heap.size:=B4.out.size
            clear hbA
            go_wp2_with (at_builtin;refine wpList_append_lies _ rfl _ _ 37 rfl w.heap.size 41 i0 _ 3 32 Tryz.underlying37 hi0 hz0 hz1 hz2 rfl (by omega) (.slice a4 ts.length c4) ts.length (tcells ts) rfl HRW.out ⟨w4.heap.size,0,none⟩ 1 1 [.int .i64 1,.int .i64 i,.string T] rfl rfl NEWS.out (by simp[Value.oneCell']) (by omega) (by unfold maxLen;omega) (by omega) (by simp;omega) (w4.heap.size+1) (by simp) ?_)
            intro gg cap6 w6 hown6 hgrow6 hat6 hlt6
            have B6:Hid (Below w.heap.size w w6):=HBA.out.grown hgrow6 (by simp;omega) (fun g hg=>(World.ownsRow.lt HRW.out g hg).1)
            have R6:=Lib.hid (TRow.step (x:=⟨1,i,T⟩) hown6)
            clear hown6 hgrow6 hat6 hlt6 HRW NEWS HBA
            go_wp2_with fail
            go_roundw
            case rel=>first | exact⟨i+N,_,AN.out.le,by go_num,AN,R6,B6⟩ | ((repeat apply Exists.intro);exact⟨⟨i+N,_,AN.out.le,by go_num,AN,R6,B6⟩,rfl⟩)
            case measure=>simp[intOf];omega
       ·obtain rfl:N=0:=by omega
        by_cases hD0:0<D
        ·as_aux_lemma=>
          have hDi:(0:Int)<(D:Int):=by omega
          have hst:=stp_num HNS.out HN.out (by rw[HD.out];exact hD0)
          unfold numS at hst
          rw[HD.out]at hst
          have hsl:=fun W=>slice_mid (s:=s) (a:=i) (b:=i+D) (x:=(i:Int)) (y:=(i:Int)+(D:Int)) W rfl (by omega) (by omega) hDl
          obtain⟨t1,t2⟩:=ext_at hDl
          have hall:allD (s.extract i (i+D)).data.toList:=by
           rw[t1,HCONS.out,←HD.out];exact allD_take _
          have hlen:(s.extract i (i+D)).data.toList.length=D:=by rw[size_l,t2]
          have hhd:(s.extract i (i+D)).data.toList.head? =some c:=by
           rw[t1,HCONS.out,show D=(D - 1)+1 by omega,List.take_succ_cons];rfl
          obtain⟨gl,hgl⟩:∃gl,glueB (s.data.toList.drop (i+D))=gl:=⟨_,rfl⟩
          have hg2:glueB ((c :: r).drop D)=gl:=by rw[←HCONS.out,List.drop_drop];exact hgl
          rw[hg2,←HCONS.out,←t1]at hst
          have hh48:decide (some c=some (48:UInt8))=((c.toNat:Int) == 48):=by
           rw[Bool.eq_iff_iff]
           simp only[Option.some.injEq,decide_eq_true_eq,beq_iff_eq]
           constructor
           ·rintro rfl;rfl
           ·intro h;exact UInt8.toNat_inj.1 (by show c.toNat=48;omega)
          have HGT:Hid (D=10→∀W,(binOp .gtr 9 (.string (s.extract i (i+D))) (.string ⟨#[49,48,55,51,55,52,49,56,50,52]⟩)).run Tryz.prog W= .ok (.bool (decide (1073741824<valD (s.extract i (i+D)).data.toList 0))) W):=fun e W=>big_cmp hall (by rw[hlen,e]) W
          obtain⟨nb,hnb⟩:∃nb,numBad (s.extract i (i+D)).data.toList gl=nb:=⟨_,rfl⟩
          rw[hnb]at hst
          have HT:Hid (nb=false→At s R (i+D) (ts ++ [⟨3,i,s.extract i (i+D)⟩])):=fun e=>by
           rw[e,if_neg (by decide)]at hst
           exact hat.out.tok hlt (by rw[←hst,HCONS.out]) hD0 (by rw[List.length_drop,size_l];omega) t1
          have HRB:Hid (nb=true→R= .bad 5 i):=fun e=>by
           rw[e,if_pos rfl]at hst
           exact hat.out.bad hlt (by rw[HCONS.out,←hst,HCONS.out])
          unfold numBad bigD at hnb
          rw[hlen,hhd,hh48]at hnb
          have HNB:=Lib.hid hnb.symm
          have HGL:=Lib.hid hgl.symm
          clear hst t1 t2 hall hlen hhd hgl hg2 hh48 hnb hat HN HD HO HCONS HR' HDL HDA HNS HKY
          generalize s.extract i (i+D)=T at*
          generalize valD T.data.toList 0=V at*
          go_upto_region 29 with (fail)
          go_cut [168] (fun b wx=>w3=wx∧b= .bool nb)
          case first=>as_aux_lemma=>
           by_cases hA:1<D∧((c.toNat:Int) == 48)=true
           ·obtain⟨hA1,g48⟩:=hA
            have hA1i:(1:Int)<(D:Int):=by omega
            have g1:decide (1<D)=true:=decide_eq_true hA1
            go_wp2_with fail
            go_meet
            case rel=>exact⟨rfl,by rw[HNB.out];simp[g1,g48]⟩
           ·cases g48:((c.toNat:Int) == 48)with
            | false=>
              by_cases h10:10<D
              ·have h10i:(10:Int)<(D:Int):=by omega
               have g10:decide (10<D)=true:=decide_eq_true h10
               go_wp2_with fail
               go_meet
               case rel=>exact⟨rfl,by rw[HNB.out];simp[g10]⟩
              ·have h10i:¬(10:Int)<(D:Int):=by omega
               have g10:decide (10<D)=false:=decide_eq_false h10
               by_cases hDe:D=10
               ·have hDei:((D:Int) == 10)=true:=by simp only[beq_iff_eq];omega
                have ge:decide (D=10)=true:=decide_eq_true hDe
                have hgt:=HGT.out hDe
                clear hDe
                cases hV:decide (1073741824<V)with
                | true=>
                  rw[hV]at hgt
                  go_wp2_with fail
                  go_meet
                  case rel=>exact⟨rfl,by rw[HNB.out];simp[g10,ge,hV]⟩
                | false=>
                  rw[hV]at hgt
                  by_cases hin:i+D<s.size
                  ·have hini:(i:Int)+(D:Int)<(s.size:Int):=by omega
                   obtain⟨c3,hc3⟩:∃c3,s.data.toList[i+D]'(by rw[size_l];exact hin)=c3:=⟨_,rfl⟩
                   have hix3:∀W,(Instr.index 9 (.string s) (.int .i64 ((i:Int)+(D:Int)))).run Tryz.prog W= .ok (.int .u8 (c3.toNat:Int)) W:=fun W=>by
                    have:=HIX.out (i+D) hin W
                    rw[show((i+D:Nat):Int)=(i:Int)+(D:Int) by omega,hc3]at this
                    exact this
                   have fg:gl=isLet c3:=by rw[HGL.out,cons_of (by rw[size_l];exact hin),hc3];rfl
                   have HL3:=Lib.hid (HLT.out c3 w3)
                   rw[←fg]at HL3
                   clear hc3 fg
                   cases gl
                   all_goals
                    go_wp2_with fail
                    refine HL3.out.mono ?_
                    rintro e w5 ⟨rfl,rfl⟩
                    go_wp2_with fail
                    go_meet
                    case rel=>exact⟨rfl,by rw[HNB.out];simp[g48,g10,ge,hV]⟩
                  ·have hini:¬(i:Int)+(D:Int)<(s.size:Int):=by omega
                   have fg:gl=false:=by rw[HGL.out,List.drop_eq_nil_of_le (by rw[size_l];omega)];rfl
                   subst fg
                   go_wp2_with fail
                   go_meet
                   case rel=>exact⟨rfl,by rw[HNB.out];simp[g48,g10,ge,hV]⟩
               ·have hDei:((D:Int) == 10)=false:=by rw[Bool.eq_false_iff];simp only[ne_eq,beq_iff_eq];omega
                have ge:decide (D=10)=false:=decide_eq_false hDe
                clear hDe
                by_cases hin:i+D<s.size
                ·have hini:(i:Int)+(D:Int)<(s.size:Int):=by omega
                 obtain⟨c3,hc3⟩:∃c3,s.data.toList[i+D]'(by rw[size_l];exact hin)=c3:=⟨_,rfl⟩
                 have hix3:∀W,(Instr.index 9 (.string s) (.int .i64 ((i:Int)+(D:Int)))).run Tryz.prog W= .ok (.int .u8 (c3.toNat:Int)) W:=fun W=>by
                  have:=HIX.out (i+D) hin W
                  rw[show((i+D:Nat):Int)=(i:Int)+(D:Int) by omega,hc3]at this
                  exact this
                 have fg:gl=isLet c3:=by rw[HGL.out,cons_of (by rw[size_l];exact hin),hc3];rfl
                 have HL3:=Lib.hid (HLT.out c3 w3)
                 rw[←fg]at HL3
                 clear hc3 fg
                 cases gl
                 all_goals
                  go_wp2_with fail
                  refine HL3.out.mono ?_
                  rintro e w5 ⟨rfl,rfl⟩
                  go_wp2_with fail
                  go_meet
                  case rel=>exact⟨rfl,by rw[HNB.out];simp[g48,g10,ge]⟩
                ·have hini:¬(i:Int)+(D:Int)<(s.size:Int):=by omega
                 have fg:gl=false:=by rw[HGL.out,List.drop_eq_nil_of_le (by rw[size_l];omega)];rfl
                 subst fg
                 go_wp2_with fail
                 go_meet
                 case rel=>exact⟨rfl,by rw[HNB.out];simp[g48,g10,ge]⟩
            | true=>
              have hA1:¬ 1<D:=fun h=>hA ⟨h,g48⟩
              have hA1i:¬(1:Int)<(D:Int):=by omega
              have g1:decide (1<D)=false:=decide_eq_false hA1
              by_cases h10:10<D
              ·have h10i:(10:Int)<(D:Int):=by omega
               have g10:decide (10<D)=true:=decide_eq_true h10
               go_wp2_with fail
               go_meet
               case rel=>exact⟨rfl,by rw[HNB.out];simp[g10]⟩
              ·have h10i:¬(10:Int)<(D:Int):=by omega
               have g10:decide (10<D)=false:=decide_eq_false h10
               by_cases hDe:D=10
               ·have hDei:((D:Int) == 10)=true:=by simp only[beq_iff_eq];omega
                have ge:decide (D=10)=true:=decide_eq_true hDe
                have hgt:=HGT.out hDe
                clear hDe
                cases hV:decide (1073741824<V)with
                | true=>
                  rw[hV]at hgt
                  go_wp2_with fail
                  go_meet
                  case rel=>exact⟨rfl,by rw[HNB.out];simp[g10,ge,hV]⟩
                | false=>
                  rw[hV]at hgt
                  by_cases hin:i+D<s.size
                  ·have hini:(i:Int)+(D:Int)<(s.size:Int):=by omega
                   obtain⟨c3,hc3⟩:∃c3,s.data.toList[i+D]'(by rw[size_l];exact hin)=c3:=⟨_,rfl⟩
                   have hix3:∀W,(Instr.index 9 (.string s) (.int .i64 ((i:Int)+(D:Int)))).run Tryz.prog W= .ok (.int .u8 (c3.toNat:Int)) W:=fun W=>by
                    have:=HIX.out (i+D) hin W
                    rw[show((i+D:Nat):Int)=(i:Int)+(D:Int) by omega,hc3]at this
                    exact this
                   have fg:gl=isLet c3:=by rw[HGL.out,cons_of (by rw[size_l];exact hin),hc3];rfl
                   have HL3:=Lib.hid (HLT.out c3 w3)
                   rw[←fg]at HL3
                   clear hc3 fg
                   cases gl
                   all_goals
                    go_wp2_with fail
                    refine HL3.out.mono ?_
                    rintro e w5 ⟨rfl,rfl⟩
                    go_wp2_with fail
                    go_meet
                    case rel=>exact⟨rfl,by rw[HNB.out];simp[g1,g10,ge,hV]⟩
                  ·have hini:¬(i:Int)+(D:Int)<(s.size:Int):=by omega
                   have fg:gl=false:=by rw[HGL.out,List.drop_eq_nil_of_le (by rw[size_l];omega)];rfl
                   subst fg
                   go_wp2_with fail
                   go_meet
                   case rel=>exact⟨rfl,by rw[HNB.out];simp[g1,g10,ge,hV]⟩
               ·have hDei:((D:Int) == 10)=false:=by rw[Bool.eq_false_iff];simp only[ne_eq,beq_iff_eq];omega
                have ge:decide (D=10)=false:=decide_eq_false hDe
                clear hDe
                by_cases hin:i+D<s.size
                ·have hini:(i:Int)+(D:Int)<(s.size:Int):=by omega
                 obtain⟨c3,hc3⟩:∃c3,s.data.toList[i+D]'(by rw[size_l];exact hin)=c3:=⟨_,rfl⟩
                 have hix3:∀W,(Instr.index 9 (.string s) (.int .i64 ((i:Int)+(D:Int)))).run Tryz.prog W= .ok (.int .u8 (c3.toNat:Int)) W:=fun W=>by
                  have:=HIX.out (i+D) hin W
                  rw[show((i+D:Nat):Int)=(i:Int)+(D:Int) by omega,hc3]at this
                  exact this
                 have fg:gl=isLet c3:=by rw[HGL.out,cons_of (by rw[size_l];exact hin),hc3];rfl
                 have HL3:=Lib.hid (HLT.out c3 w3)
                 rw[←fg]at HL3
                 clear hc3 fg
                 cases gl
                 all_goals
                  go_wp2_with fail
                  refine HL3.out.mono ?_
                  rintro e w5 ⟨rfl,rfl⟩
                  go_wp2_with fail
                  go_meet
                  case rel=>exact⟨rfl,by rw[HNB.out];simp[g1,g10,ge]⟩
                ·have hini:¬(i:Int)+(D:Int)<(s.size:Int):=by omega
                 have fg:gl=false:=by rw[HGL.out,List.drop_eq_nil_of_le (by rw[size_l];omega)];rfl
                 subst fg
                 go_wp2_with fail
                 go_meet
                 case rel=>exact⟨rfl,by rw[HNB.out];simp[g1,g10,ge]⟩
          case rest=>as_aux_lemma=>
           obtain⟨rfl,rfl⟩:=hcut
           cases nb with
           | true=>
             have HR:=Lib.hid (HRB.out rfl)
             clear HT HRB HNB HGL HGT
             go_wp2
             exact bodyPost_ret (v:= .tuple #[.slice none 0 0,.int .i64 5,.int .i64 i]) (by simp[results,Tryz.results24,go_sem]) rfl ⟨_,by rw[HR.out];rfl,by rw[HR.out];exact TRow.nil _ _,B3.out⟩
           | false=>
             have AN:=Lib.hid (HT.out rfl)
             clear HT HRB HNB HGL HGT
             have hbA:Below w3.heap.size w3 (w3.alloc (.cells #[.int .i64 3,.int .i64 i,.string T] 41)):=(Below.refl _ _).alloc (Nat.le_refl _) _
             have HRW:Hid ((w3.alloc (.cells #[.int .i64 3,.int .i64 i,.string T] 41)).ownsRow w.heap.size 41 3 (.slice a4 ts.length c4) ts.length (tcells ts)):=R3.out.below hbA
             have HBA:=Lib.hid (B3.out.trans (hbA.mono B3.out.size))
             have NEWS:=Lib.hid (World.news_of_block (cs:= #[.int .i64 3,.int .i64 i,.string T]) (t:=41) (fr:=(0,0)) (heap_alloc_new w3 _))
             have hzb:w.heap.size≤w3.heap.size:=B3.out.size
             clear hbA
             go_wp2_with (at_builtin;refine wpList_append_lies _ rfl _ _ 37 rfl w.heap.size 41 i0 _ 3 32 Tryz.underlying37 hi0 hz0 hz1 hz2 rfl (by omega) (.slice a4 ts.length c4) ts.length (tcells ts) rfl HRW.out ⟨w3.heap.size,0,none⟩ 1 1 [.int .i64 3,.int .i64 i,.string T] rfl rfl NEWS.out (by simp[Value.oneCell']) (by omega) (by unfold maxLen;omega) (by omega) (by simp;omega) (w3.heap.size+1) (by simp) ?_)
             intro gg cap6 w6 hown6 hgrow6 hat6 hlt6
             have B6:Hid (Below w.heap.size w w6):=HBA.out.grown hgrow6 (by simp;omega) (fun g hg=>(World.ownsRow.lt HRW.out g hg).1)
             have R6:=Lib.hid (TRow.step (x:=⟨3,i,T⟩) hown6)
             clear hown6 hgrow6 hat6 hlt6 HRW NEWS HBA
             go_wp2_with fail
             go_roundw
             case rel=>first | exact⟨i+D,_,AN.out.le,by go_num,AN,R6,B6⟩ | ((repeat apply Exists.intro);exact⟨⟨i+D,_,AN.out.le,by go_num,AN,R6,B6⟩,rfl⟩)
             case measure=>simp[intOf];omega
        ·as_aux_lemma=>
          obtain rfl:D=0:=by omega
          have hst:=stp_op (by simp) HNS.out HN.out HD.out
          by_cases hO0:opN (c :: r)=0
          ·rw[if_pos hO0]at hst
           have HR:=Lib.hid (hat.out.bad hlt (by rw[HCONS.out];exact hst))
           have ho:o=⟨#[]⟩:=text_of (by rw[HO.out,hO0,List.take_zero])
           subst ho
           clear hst hO0 hat HN HD HO HCONS HR' HDL HDA HNS HKY
           go_wp2
           exact bodyPost_ret (v:= .tuple #[.slice none 0 0,.int .i64 10,.int .i64 i]) (by simp[results,Tryz.results24,go_sem]) rfl ⟨_,by rw[HR.out];rfl,by rw[HR.out];exact TRow.nil _ _,B3.out⟩
          ·rw[if_neg hO0]at hst
           have hol:=opN_len (c :: r)
           have hol2:=hol
           rw[←HCONS.out,List.length_drop,size_l,HCONS.out]at hol2
           obtain⟨O,hO⟩:∃O,opN (c :: r)=O:=⟨_,rfl⟩
           have hoz:o.size=O:=by rw[←size_l,HO.out,List.length_take];omega
           have AN:=Lib.hid (hat.out.tok (t:=o) hlt (by rw[HCONS.out];exact hst) (by omega) (by rw[HCONS.out];exact hol) (by rw[HO.out,HCONS.out]))
           rw[hO]at AN hO0
           have hozi:(o.size:Int)=(O:Int):=by omega
           have hone:o.toList≠[]:=fun e=>by
            rw[Lib.toList_data]at e
            have:=congrArg List.length e
            rw[size_l,hoz]at this
            exact hO0 this
           have g1:(o.toList == [])=false:=by rw[Bool.eq_false_iff];simpa using hone
           have g2:o.toList.isEmpty=false:=by rw[Bool.eq_false_iff];simpa using hone
           have hOl:i+O≤s.size:=by omega
           clear hst hol hol2 hO hoz hone hat HN HD HO HCONS HR' HDL HDA HNS HKY
           have hbA:Below w3.heap.size w3 (w3.alloc (.cells #[.int .i64 4,.int .i64 i,.string o] 41)):=(Below.refl _ _).alloc (Nat.le_refl _) _
           have HRW:Hid ((w3.alloc (.cells #[.int .i64 4,.int .i64 i,.string o] 41)).ownsRow w.heap.size 41 3 (.slice a4 ts.length c4) ts.length (tcells ts)):=R3.out.below hbA
           have HBA:=Lib.hid (B3.out.trans (hbA.mono B3.out.size))
           have NEWS:=Lib.hid (World.news_of_block (cs:= #[.int .i64 4,.int .i64 i,.string o]) (t:=41) (fr:=(0,0)) (heap_alloc_new w3 _))
           have hzb:w.heap.size≤w3.heap.size:=B3.out.size
           clear hbA
           go_wp2_with (at_builtin;refine wpList_append_lies _ rfl _ _ 37 rfl w.heap.size 41 i0 _ 3 32 Tryz.underlying37 hi0 hz0 hz1 hz2 rfl (by omega) (.slice a4 ts.length c4) ts.length (tcells ts) rfl HRW.out ⟨w3.heap.size,0,none⟩ 1 1 [.int .i64 4,.int .i64 i,.string o] rfl rfl NEWS.out (by simp[Value.oneCell']) (by omega) (by unfold maxLen;omega) (by omega) (by simp;omega) (w3.heap.size+1) (by simp) ?_)
           intro gg cap6 w6 hown6 hgrow6 hat6 hlt6
           have B6:Hid (Below w.heap.size w w6):=HBA.out.grown hgrow6 (by simp;omega) (fun g hg=>(World.ownsRow.lt HRW.out g hg).1)
           have R6:=Lib.hid (TRow.step (x:=⟨4,i,o⟩) hown6)
           clear hown6 hgrow6 hat6 hlt6 HRW NEWS HBA
           go_wp2_with fail
           go_roundw
           case rel=>first | exact⟨i+O,_,AN.out.le,by go_num,AN,R6,B6⟩ | ((repeat apply Exists.intro);exact⟨⟨i+O,_,AN.out.le,by go_num,AN,R6,B6⟩,rfl⟩)
           case measure=>simp[intOf];omega
   ·obtain rfl:i=s.size:=by omega
    obtain⟨a4,c4,hu4⟩:=hrow.out.slice
    subst hu4
    have HR:=Lib.hid (hat.out.fin hlt)
    go_wp2
    exact bodyPost_ret (v:= .tuple #[.slice a4 ts.length c4,.int .i64 0,.int .i64 (-1)]) (by simp[results,Tryz.results24,go_sem]) rfl ⟨_,by rw[HR.out];rfl,by rw[HR.out];exact hrow.out,hbr.out⟩
end
end Go.Proofs.YtcinokljkieijaaGreatDoor
