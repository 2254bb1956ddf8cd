/- Parts of a proof. -/
import Derived.Test.YtcinokljkieijaaGreatDoorQ02
import Derived.Test.YtcinokljkieijaaGreatDoorQ03
set_option linter.unusedVariables false
set_option linter.unusedSimpArgs false
set_option maxHeartbeats 60000000
set_option maxRecDepth 100000
namespace Go.Proofs.YtcinokljkieijaaGreatDoor
section
open Go.RowKit
def ScanEnd (r:Int×Int×List Tok)(w:World)(e:Ending)(w':World):Prop:=
 ∃v er,e= .returned (.tuple #[v,er])∧TRow w.heap.size r.2.2 v w'∧ErrIs w.heap.size r.1 r.2.1 er w'∧Below w.heap.size w w'
theorem Tryz.infoTok:(Tryz.prog.info? 41).map (fun i=>(i.zero,i.size,i.bytes))=some (some (.agg #[.int .i64 0,.int .i64 0,.string ByteArray.empty]),3,32):=by kernel_rfl
theorem info_parts {p:Option TypeInfo}{a:Option Value}{b c:Nat}(h:p.map (fun i=>(i.zero,i.size,i.bytes))=some (a,b,c)):∃i,p=some i∧i.zero=a∧i.size=b∧i.bytes=c:=by
 cases p with
 | none=>cases h
 | some i=>simp at h;exact⟨i,rfl,h.1,h.2.1,h.2.2⟩
theorem text_of {t:ByteArray}{l:List UInt8}(h:t.data.toList=l):t=⟨l.toArray⟩:=by
 rw[←h,Lib.mk_data]
theorem spot_tok {B:Nat}(i:Nat)(c:Int)(hc:c≠0)(W:World)(h:B≤W.heap.size):ErrIs B c i (.iface 87 (.pointer (some ⟨W.heap.size,0,none⟩))) (W.alloc (.cells #[.int .i64 i,.iface 50 (.int .i64 c)] 89)):=by
 have hn:=heap_alloc_new W (.cells #[.int .i64 i,.iface 50 (.int .i64 c)] 89)
 refine⟨fun h=>by omega,fun _=>⟨W.heap.size,rfl,h,by simp,(cell_of_row _ _ _ _ _ _ hn).trans rfl,(cell_of_row _ _ _ _ _ _ hn).trans (by rw[codeV_ne hc];rfl)⟩⟩
structure At (s:ByteArray)(R:Res)(i:Nat)(ts:List Tok):Prop where
 le:i≤s.size
 eq:ScanEq s.data.toList i ts R
 few:ts.length≤i
theorem At.start (s:ByteArray):At s (scanF s.data.toList.length s.data.toList 0 []) 0 []:=⟨Nat.zero_le _,ScanEq.start _,Nat.le_refl _⟩
theorem At.fin {s:ByteArray}{R:Res}{i:Nat}{ts:List Tok}(h:At s R i ts)(hi:¬i<s.size):R= .ok ts:=h.eq.fin (by rw[size_l];omega)
theorem At.skips {s:ByteArray}{R:Res}{i b:Nat}{ts:List Tok}(h:At s R i ts)(hb:Skips (s.data.toList.drop i) b):At s R (i+b) ts:=by
 have:=hb.le
 rw[List.length_drop,size_l]at this
 have:=h.le
 exact⟨by omega,h.eq.skips (by rw[size_l];exact h.le) hb,by have:=h.few;omega⟩
theorem At.tok {s t:ByteArray}{R:Res}{i n:Nat}{k:Int}{ts:List Tok}(h:At s R i ts)(hi:i<s.size)(hs:stp (s.data.toList.drop i)= .tok k n)(h1:1≤n)(h2:n≤(s.data.toList.drop i).length)(ht:t.data.toList=(s.data.toList.drop i).take n):At s R (i+n) (ts ++ [⟨k,i,t⟩]):=by
 have e:=h.eq.tok (by rw[size_l];exact hi) hs h1
 rw[List.length_drop,size_l]at h2
 rw[text_of ht]
 exact⟨by omega,e,by rw[List.length_append,List.length_singleton];have:=h.few;omega⟩
theorem At.bad {s:ByteArray}{R:Res}{i:Nat}{c:Int}{ts:List Tok}(h:At s R i ts)(hi:i<s.size)(hs:stp (s.data.toList.drop i)= .bad c):R= .bad c i:=h.eq.bad (by rw[size_l];exact hi) hs
theorem TRow.step {B:Nat}{ts:List Tok}{x:Tok}{g cap:Nat}{w:World}(h:w.ownsRow B 41 3 (.slice (some ⟨g,0,none⟩) (ts.length+1) cap) (ts.length+1) (tcells ts ++ [.int .i64 x.kind,.int .i64 (x.at':Int),.string x.text])):TRow B (ts ++ [x]) (.slice (some ⟨g,0,none⟩) (ts.length+1) cap) w:=by
 unfold TRow
 rw[tcells_append,List.length_append,List.length_singleton]
 exact h
theorem slice_from {s:ByteArray}{a:Nat}{x:Int}(W:World)(hx:x=a)(hb:a≤s.size):
 (Instr.slice 9 (.string s) (some (.int .i64 x)) none none).run Tryz.prog W= .ok (.string (s.extract a s.size)) W:=by
 subst hx
 rw[run_slice_string_from_if W _ s .i64 a Tryz.underlying9,if_pos ⟨by omega,by omega⟩]
 rfl
end
section
open Go.RowKit
theorem scan_any (s:ByteArray)(w:World)(hs:s.size≤9223372036854775807)(hL:Laid w):Calls Tryz.prog 14 #[.string s] w (ScanEnd (resOf s) w):=by
 by_cases hbig:65536<s.size
 ·have hr:resOf s=(2, -1,[]):=if_pos hbig
  rw[hr]
  have hi:(65536:Int)<(s.size:Int):=by omega
  clear hL
  go_enter Tryz.func14,Tryz.ntmps14
  go_wp2
  go_ret2
  exact⟨_,_,rfl,TRow.nil _ _,⟨fun _=>rfl,fun h=>absurd h (by decide)⟩,Below.refl _ _⟩
 ·have hr:resOf s=resR (scanF s.data.toList.length s.data.toList 0 []):=if_neg hbig
  rw[hr]
  have hst:=At.start s
  generalize scanF s.data.toList.length s.data.toList 0 []=R at hst⊢
  have hi:¬(65536:Int)<(s.size:Int):=by omega
  have HBL:=Lib.hid (fun(k:Nat) W=>blanks_any (s.extract k s.size) W)
  have HBL0:=Lib.hid (blanks_any s w (by omega))
  have HTK:=Lib.hid (fun(k:Nat) W=>token_any (s.extract k s.size) W)
  have HSZ:Hid (∀k,k≤s.size→(s.extract k s.size).size=s.size - k∧(s.extract k s.size).data.toList=s.data.toList.drop k):=fun k hk=>by
   have e:=Lib.extract_to_end s k
   exact⟨by rw[←size_l,e,List.length_drop,size_l],e⟩
  have HL:=Lib.hid (fun W (hb:Below w.heap.size w W)=>hL.up hb)
  obtain⟨i0,hi0,hz0,hz1,hz2⟩:=info_parts Tryz.infoTok
  have HST:=Lib.hid hst
  have hne:∀c:Int,c≠0→(c != 0)=true:=fun c h=>by simpa using h
  have HNE:=Lib.hid hne
  clear hL hst hr hne
  go_enter Tryz.func14,Tryz.ntmps14
  go_wp2_with fail
  refine HBL0.out.mono ?_
  rintro e w1 ⟨b,rfl,hb1,hb2,hb3,hbw⟩
  have HST1:=Lib.hid (HST.out.skips (b:=b) (by rw[List.drop_zero];exact hb1))
  rw[Nat.zero_add]at HST1
  have HNS:=Lib.hid hb2
  have B1:=Lib.hid hbw
  clear hb1 hb2 hbw HBL0 HST
  go_wp2_with fail
  go_loopw [4,5] (fun o i wr=>∃(k:Nat) (ts:List Tok),k≤s.size∧i= .int .i64 k∧Hid (At s R k ts)∧Hid (NoSkip (s.data.toList.drop k))∧Hid (TRow w.heap.size ts o wr)∧Hid (Below w.heap.size w wr)) (fun _ i _=>s.size - (intOf i).toNat)
  case atStart=>exact⟨b,[],hb3,rfl,HST1.out,HNS.out,TRow.nil _ _,B1.out⟩
  case round=>
   clear hb3 HST1 HNS B1
   obtain⟨k,ts,hk,rfl,hat,hns,hrow,hbr⟩:=hrel
   obtain⟨wo,rfl⟩:∃wo:World,wo=wr:=⟨_,rfl⟩
   by_cases hlt:k<s.size
   ·have hlti:(k:Int)<(s.size:Int):=by omega
    obtain⟨z1,z2⟩:=HSZ.out k hk
    have HT:=Lib.hid (HTK.out k wo (by omega) (HL.out wo hbr.out) (by omega) (by rw[z2];exact hns.out))
    have Z2:=Lib.hid z2
    clear z1 z2
    go_wp2_with fail
    refine HT.out.mono ?_
    rintro e w2 ⟨kd,t,c,rfl,ht,hb2⟩
    rw[Z2.out]at ht
    have HTI:=Lib.hid ht
    have B2:=Lib.hid (hbr.out.trans (hb2.mono hbr.out.size))
    have R2:=Lib.hid (hrow.out.below hb2)
    clear hb2 ht HT hbr hrow
    by_cases hc:c=0
    ·subst hc
     obtain⟨n,hst,hn1,hn2,htx⟩:∃n,stp (s.data.toList.drop k)= .tok kd n∧1≤n∧n≤(s.data.toList.drop k).length∧t.data.toList=(s.data.toList.drop k).take n:=by
      generalize s.data.toList.drop k=l at HTI
      cases HTI.out with
      | bad h1 h2=>exact absurd rfl h2
      | tok h1 h2 h3 h4=>exact⟨_,h1,h2,h3,h4⟩
     have AN:=Lib.hid (hat.out.tok hlt hst hn1 hn2 htx)
     rw[List.length_drop,size_l]at hn2
     have htz:t.size=n:=by rw[←size_l,htx,List.length_take,List.length_drop,size_l];omega
     have hkn:k+n≤s.size:=by omega
     have hkni:(k:Int)+(n:Int)≤(s.size:Int):=by omega
     have hfew:ts.length≤65536:=by have:=hat.out.few;omega
     have hzi:(t.size:Int)=(n:Int):=by omega
     obtain⟨a4,c4,hu4⟩:=R2.out.slice
     subst hu4
     have hbA:Below w2.heap.size w2 ((w2.alloc (.cells #[.int .i64 kd,.int .i64 k,.string t] 41)).alloc (.cells #[.int .i64 kd,.int .i64 k,.string t] 41)):=((Below.refl _ _).alloc (Nat.le_refl _) _).alloc (by simp) _
     have HRW:Hid (((w2.alloc (.cells #[.int .i64 kd,.int .i64 k,.string t] 41)).alloc (.cells #[.int .i64 kd,.int .i64 k,.string t] 41)).ownsRow w.heap.size 41 3 (.slice a4 ts.length c4) ts.length (tcells ts)):=R2.out.below hbA
     have HBA:=Lib.hid (B2.out.trans (hbA.mono B2.out.size))
     have hsz2:(w2.alloc (.cells #[.int .i64 kd,.int .i64 k,.string t] 41)).heap.size=w2.heap.size+1:=by simp
     have hn:=heap_alloc_new (w2.alloc (.cells #[.int .i64 kd,.int .i64 k,.string t] 41)) (.cells #[.int .i64 kd,.int .i64 k,.string t] 41)
     rw[hsz2]at hn
     have NEWS:=Lib.hid (World.news_of_block (cs:= #[.int .i64 kd,.int .i64 k,.string t]) (t:=41) (fr:=(0,0)) hn)
     have HNB:Hid ((Value.slice a4 ts.length c4).ownBlock≠some w2.heap.size):=fun e=>by have:=(World.ownsRow.lt R2.out _ e).2;omega
     have hc2:((w2.alloc (.cells #[.int .i64 kd,.int .i64 k,.string t] 41)).alloc (.cells #[.int .i64 kd,.int .i64 k,.string t] 41)).cell? ⟨w2.heap.size,2,none⟩=some (.string t):=by
      rw[World.cell?_alloc_lt _ _ ⟨w2.heap.size,2,none⟩ (by simp),cell_of_row _ _ _ _ _ _ (heap_alloc_new w2 _)];rfl
     have HC2:=Lib.hid hc2
     have hsl2:=fun W=>slice_from (s:=s) (a:=k+n) (x:=(k:Int)+(n:Int)) W (by omega) hkn
     have HB3:=Lib.hid (fun W=>HBL.out (k+n) W (by have:=(HSZ.out (k+n) hkn).1;omega))
     have HZ3:=Lib.hid (HSZ.out (k+n) hkn).2
     have hzb:w.heap.size≤w2.heap.size:=B2.out.size
     clear HTI hst htx htz hsz2 hn hbA R2 hc2
     go_wp2_with (at_builtin;refine wpList_append_lies _ rfl _ _ 37 rfl w.heap.size 41 i0 _ 3 32 Tryz.underlying37 hi0 hz0 hz1 hz2 rfl (by omega) (.slice a4 ts.length c4) ts.length (tcells ts) rfl HRW.out ⟨w2.heap.size+1,0,none⟩ 1 1 [.int .i64 kd,.int .i64 k,.string t] rfl rfl NEWS.out (by simp[Value.oneCell']) (by omega) (by unfold maxLen;omega) (by omega) (by simp;omega) (w2.heap.size+2) (by simp) ?_)
     intro gg cap6 w6 hown6 hgrow6 hat6 hlt6
     have q2:w6.cell? ⟨w2.heap.size,2,none⟩=some (.string t):=(hgrow6.cell_far ⟨w2.heap.size,2,none⟩ (by simp;omega) (fun e=>HNB.out e.symm)).trans HC2.out
     have B6:Hid (Below w.heap.size w w6):=HBA.out.grown hgrow6 (by simp;omega) (fun g hg=>(World.ownsRow.lt HRW.out g hg).1)
     have R6:=Lib.hid (TRow.step (x:=⟨kd,k,t⟩) hown6)
     clear hown6 hgrow6 hat6 hlt6 HRW NEWS HC2 HNB HBA B2
     go_wp2_with fail
     refine(HB3.out _).mono ?_
     rintro e w7 ⟨b7,rfl,hs7,hns7,hb7l,hb7⟩
     rw[HZ3.out]at hs7 hns7
     have B7:=Lib.hid (B6.out.trans (hb7.mono B6.out.size))
     have R7:=Lib.hid (R6.out.below hb7)
     have A7:=Lib.hid (AN.out.skips hs7)
     have N7:Hid (NoSkip (s.data.toList.drop (k+n+b7))):=by show NoSkip _;rw[←List.drop_drop];exact hns7
     have h7:=A7.out.le
     clear hs7 hns7 hb7 B6 R6 AN HB3 HZ3 hb7l
     go_wp2_with fail
     go_roundw
     case rel=>exact⟨k+n+b7,_,h7,by go_num,A7,N7,R7,B7⟩
     case measure=>simp[intOf];omega
    ·have hcb:=HNE.out c hc
     obtain⟨hR,hk0⟩:R= .bad c k∧True:=by
      generalize hg:s.data.toList.drop k=l at HTI
      cases HTI.out with
      | bad h1 h2=>rw[←hg]at h1;exact⟨hat.out.bad hlt h1,trivial⟩
      | tok=>exact absurd rfl hc
     have HR:=Lib.hid hR
     have HSP:=Lib.hid (fun W h=>spot_tok (B:=w.heap.size) k c hc W h)
     clear hR hc HTI R2 hat hns
     go_wp2
     go_ret2
     have hz:(w2.alloc (.cells #[.int .i64 kd,.int .i64 0,.string t] 41)).heap.size=w2.heap.size+1:=by simp
     have hbA:Below w2.heap.size w2 (w2.alloc (.cells #[.int .i64 kd,.int .i64 0,.string t] 41)):=(Below.refl _ _).alloc (Nat.le_refl _) _
     have hs2:=HSP.out (w2.alloc (.cells #[.int .i64 kd,.int .i64 0,.string t] 41)) (Nat.le_trans B2.out.size hbA.size)
     rw[hz]at hs2
     exact⟨_,_,rfl,by rw[HR.out];exact TRow.nil _ _,by rw[HR.out];exact hs2,B2.out.trans ((hbA.alloc hbA.size _).mono B2.out.size)⟩
   ·obtain rfl:k=s.size:=by omega
    have HR:=Lib.hid (hat.out.fin hlt)
    go_wp2
    go_ret2
    exact⟨_,_,rfl,by rw[HR.out];exact hrow.out,by rw[HR.out];exact⟨fun _=>rfl,fun h=>by simp[resR]at h⟩,hbr.out⟩
end
end Go.Proofs.YtcinokljkieijaaGreatDoor
