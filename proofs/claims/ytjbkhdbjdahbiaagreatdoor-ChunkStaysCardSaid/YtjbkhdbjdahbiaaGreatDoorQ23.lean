/- Parts of a proof. -/
import Derived.Test.YtjbkhdbjdahbiaaGreatDoorQ01
import Derived.Test.YtjbkhdbjdahbiaaGreatDoorQ05
import Derived.Test.YtjbkhdbjdahbiaaGreatDoorQ07
import Derived.Test.YtjbkhdbjdahbiaaGreatDoorQ17
import Derived.Test.YtjbkhdbjdahbiaaGreatDoorQ19
import Derived.Test.YtjbkhdbjdahbiaaGreatDoorQ20
import Derived.Test.YtjbkhdbjdahbiaaGreatDoorQ21
import Derived.Test.YtjbkhdbjdahbiaaGreatDoorQ22
import Derived.Test.YtjbkhdbjdahbiaaGreatDoorRows
import Derived.BigQuiet
set_option linter.unusedVariables false
set_option linter.unusedSimpArgs false
set_option maxHeartbeats 60000000
set_option maxRecDepth 100000
namespace Go.Proofs.YtjbkhdbjdahbiaaGreatDoor
section
open Go.RowKit
theorem code_erC (k:Int)(w:World)(h1:0≤k)(h2:k≤16):Calls Tryz.prog 14 #[erV k] w fun e w'=>e= .returned (.int .i64 k)∧Below w.heap.size w w':=by
 by_cases hk:k=0
 ·subst hk
  refine(code_nil w).mono ?_
  rintro e w' ⟨rfl,rfl⟩
  exact⟨rfl,Below.refl _ _⟩
 ·rw[show erV k= .iface 89 (.int .i64 k) from if_neg hk]
  refine(code_k k w (by omega) h2).mono ?_
  rintro e w' ⟨rfl,rfl⟩
  exact⟨rfl,Below.refl _ _⟩
theorem fm_cells {n B:Nat}{w:World}{la:Option Addr}{fs:List Lf.FT}(hs:Pak.Sits (frmSh n) (Pak.Lo B) w la fs)(h0:0<fs.length):∃b off,la=some ⟨b,off,none⟩∧b<B∧∀m (h:m<fs.length),∃c0 c1 c2 c3,(w.cell? ⟨b,off+m*4,none⟩=some c0∧w.cell? ⟨b,off+m*4+1,none⟩=some c1∧w.cell? ⟨b,off+m*4+2,none⟩=some c2∧w.cell? ⟨b,off+m*4+3,none⟩=some c3)∧Lf.FLiesS (Pak.Lo B) w n fs[m] [c0,c1,c2,c3]:=by
 obtain⟨b,off,cs,e,hb,_⟩:=hs.2 0 h0
 refine⟨b,off,e,hb,fun m hm=> ?_⟩
 obtain⟨b',off',cs,e',hb',hc,hr⟩:=hs.2 m hm
 rw[e]at e'
 injection e' with e'
 injection e' with e1 e2
 subst e1 e2
 have hr':Lf.FLiesS (Pak.Lo B) w n fs[m] cs:=hr
 obtain⟨c0,c1,c2,c3,rfl⟩:=hr'.four
 exact⟨c0,c1,c2,c3,⟨hc 0 _ rfl,hc 1 _ rfl,hc 2 _ rfl,hc 3 _ rfl⟩,hr'⟩
theorem same_fm_all {n:Nat}{w:World}(f:Lf.FT)(c0 c1 c2 c3 d0 d1 d2 d3:Value)(ha:Lf.FLiesS (Pak.Lo w.heap.size) w n f [c0,c1,c2,c3])(hb:Lf.FLiesS (Pak.Lo w.heap.size) w n f [d0,d1,d2,d3]):
 ValAll 15 #[.agg #[c0,c1,c2,c3],.agg #[d0,d1,d2,d3]] (.bool true) w:=fun W hW=>
 Lf.same2_any n f [c0,c1,c2,c3] [d0,d1,d2,d3] W
  ((ha.keep (S':=Pak.Lo W.heap.size) (fun b (h:b<w.heap.size)=>Nat.lt_of_lt_of_le h hW.size) (fun b o h=>hW.cell (p:=⟨b,o,none⟩) h)).lies (fun b h=>h))
  ((hb.keep (S':=Pak.Lo W.heap.size) (fun b (h:b<w.heap.size)=>Nat.lt_of_lt_of_le h hW.size) (fun b o h=>hW.cell (p:=⟨b,o,none⟩) h)).lies (fun b h=>h))
theorem sameForms_any (la lb:Option Addr)(ln ca cb:Nat)(fs:List Lf.FT)(w:World)(ha:Pak.Sits (frmSh 3) (Pak.Lo w.heap.size) w la fs)(hb:Pak.Sits (frmSh 3) (Pak.Lo w.heap.size) w lb fs)(hm:fs.length=ln):
 Calls Tryz.prog 13 #[.slice la ln ca,.slice lb ln cb] w fun e w'=>e= .returned (.bool true)∧Below w.heap.size w w':=by
 have hmm:ln≤9223372036854775807:=by rw[←hm];exact ha.1
 have HA:=Lib.hid ha
 have HB:=Lib.hid hb
 have HM:=Lib.hid hm
 clear ha hb hm
 have hnn:((ln:Int) != (ln:Int))=false:=by simp
 go_enter Tryz.func13,Tryz.ntmps13
 go_wp2_with fail
 go_loopw [5] (fun i wr=>∃m:Nat,i= .int .i64 m∧m≤ln∧Hid (Below w.heap.size w wr)) (fun i _=>ln - (intOf i).toNat)
 case atStart=>exact⟨0,rfl,Nat.zero_le _,Below.refl _ _⟩
 case round=>
  obtain⟨m,rfl,hm,hb⟩:=hrel
  by_cases hlt:m<ln
  ·have hmi:(m:Int)<(ln:Int):=by omega
   have hmx:m<fs.length:=by rw[HM.out];exact hlt
   obtain⟨b,off,rfl,hbb,HC⟩:=fm_cells (HA.out.below hb.out hb.out.size) (by omega)
   obtain⟨b',off',rfl,hbb',HC'⟩:=fm_cells (HB.out.below hb.out hb.out.size) (by omega)
   obtain⟨c0,c1,c2,c3,⟨k0,k1,k2,k3⟩,hf⟩:=HC m hmx
   obtain⟨d0,d1,d2,d3,⟨l0,l1,l2,l3⟩,hf'⟩:=HC' m hmx
   have X1:=Lib.hid (same_fm_all fs[m] c0 c1 c2 c3 d0 d1 d2 d3 hf hf')
   obtain⟨ek,ec,eta,etn,etc,eka,ekn,ekc,rfl,rfl,rfl,rfl⟩:=(hf.lies (B:=wr.heap.size) (fun b hb=>hb)).form
   obtain⟨uk,uc,uta,utn,utc,uka,ukn,ukc,rfl,rfl,rfl,rfl⟩:=(hf'.lies (B:=wr.heap.size) (fun b hb=>hb)).form
   have g0:=cell_regrown k0
   have g1:=cell_regrown k1
   have g2:=cell_regrown k2
   have g3:=cell_regrown k3
   have h0:=cell_regrown l0
   have h1:=cell_regrown l1
   have h2:=cell_regrown l2
   have h3:=cell_regrown l3
   have r1:=X1.out.reg
   have HBB:=Lib.hid hb.out
   have hlt2:m+1≤ln:=hlt
   clear X1 hb HC HC' hf hf' k0 k1 k2 k3 l0 l1 l2 l3
   go_wp2_with fail
   refine wp_region_quiet_below (by kernel_rfl) (by kernel_rfl) ?_
   repeat (go_big_quiet_step (with_reducible exact r1 _ _))
   refine wpQuiet_nil ?_
   intro w9 hw'
   obtain⟨⟨dq,osq⟩,hw''⟩:=hw'
   have H9:Hid (Below w.heap.size w w9):=Lib.hid (by rw[hw''];exact HBB.out.trans ((below_regrown _ dq osq).mono HBB.out.size))
   clear hw'' r1 g0 g1 g2 g3 h0 h1 h2 h3 HBB
   go_wp2_with fail
   go_roundw
   case rel=>exact⟨m+1,by go_num,hlt2,H9⟩
   case measure=>simp[intOf];omega
  ·obtain rfl:m=ln:=by omega
   have hlti:¬(m:Int)<(m:Int):=by omega
   go_wp2_with fail
   go_ret
   exact⟨rfl,hb.out⟩
end
section
open Go.RowKit
theorem factsK_len (xs:List CK)(c:CK):(factsK xs c).1.length≤xs.length+1:=by
 unfold factsK
 split
 ·split
  ·simp
  ·split
   ·have:=factsTo_len c xs xs.length
    simp only[List.length_cons]
    omega
   ·simp
 ·simp
theorem factsK_code (xs:List CK)(c:CK):0≤(factsK xs c).2∧(factsK xs c).2≤16:=by
 unfold factsK
 split
 ·split
  ·simp
  ·split<;>simp
 ·simp
theorem sameK_codes (a b:LT):0≤(sameK a b).2∧(sameK a b).2≤16:=by
 unfold sameK
 split
 ·split<;>simp
 ·simp
theorem chunkFacts_any (hup:UpSaid20)(la:Option Addr)(ln lcap:Nat)(xs:List CK)(c:CK)(b1 b2:Option Addr)(m1 m2:Nat)(w:World)(hm:xs.length=ln)(hs:Pak.Sits ckSh (Pak.Lo w.heap.size) w la xs)(hnil:la=none→lcap=0)(hb:∀x∈xs,x.a.2.length*16≤140737488355328∧x.v.2.length*16≤140737488355328)(hc:Lt40 c.n→CkIn w c b1 m1 b2 m2)(hL:Laid w):
 Calls Tryz.prog 3 #[.slice la ln lcap,.agg #[.int .i64 c.a.1,.slice b1 c.a.2.length m1,.string c.f,.int .i64 c.n,.int .i64 c.v.1,.slice b2 c.v.2.length m2]] w fun e w'=>e= .returned (.bool true)∧Below w.heap.size w w':=by
 have HB0:Hid (Below w.heap.size w (w.alloc (.cells #[.int .i64 c.a.1,.slice b1 c.a.2.length m1,.string c.f,.int .i64 c.n,.int .i64 c.v.1,.slice b2 c.v.2.length m2] 27))):=Lib.hid box_low
 have HC0:Hid (C6 (w.alloc (.cells #[.int .i64 c.a.1,.slice b1 c.a.2.length m1,.string c.f,.int .i64 c.n,.int .i64 c.v.1,.slice b2 c.v.2.length m2] 27)) w.heap.size c b1 m1 b2 m2):=Lib.hid c6_new
 have HUP:=Lib.hid (hup (w.alloc (.cells #[.int .i64 c.a.1,.slice b1 c.a.2.length m1,.string c.f,.int .i64 c.n,.int .i64 c.v.1,.slice b2 c.v.2.length m2] 27)) (hL.up HB0.out))
 have HLI:=Lib.hid (fun W (hW:Below w.heap.size w W)=>light_any la ln lcap xs W (hs.below hW hW.size) hm)
 have HFA:=Lib.hid (fun W (hW:Below w.heap.size w W) hl hN h40=>facts_any la ln lcap xs c b1 b2 m1 m2 W (hs.below hW hW.size) hm hl hN hb ((hc h40).below hW))
 have HRF:=Lib.hid (fun W (hW:Below w.heap.size w W) hl hN h40=>rfacts_any la ln lcap xs c b1 b2 m1 m2 W (hs.below hW hW.size) hm hl hnil hN hb ((hc h40).below hW))
 have HCI:=Lib.hid hc
 have HSA:=Lib.hid (fun W (hW:Below w.heap.size w W) (h40:Lt40 c.n)=>csame_any 0 c.a c.v b1 b2 m1 m2 W ((hc h40).below hW).la ((hc h40).below hW).lv (by have:=(hc h40).sa;omega) (by have:=(hc h40).sv;omega) (hc h40).na (hc h40).nv)
 have HRS:=Lib.hid (fun W (hW:Below w.heap.size w W) (h40:Lt40 c.n)=>rsame_any 0 c.a c.v b1 b2 m1 m2 W ((hc h40).below hW).la ((hc h40).below hW).lv (by have:=(hc h40).sa;omega) (by have:=(hc h40).sv;omega) (hc h40).na)
 have HM:=Lib.hid hm
 clear hup hs hb hL hm hnil hc
 go_enter Tryz.func3,Tryz.ntmps3
 go_wp2_with fail
 refine HUP.out.mono ?_
 rintro r w1 ⟨rfl,hb1⟩
 have W1:=Lib.hid (HB0.out.trans (hb1.mono HB0.out.size))
 have C1:=Lib.hid (HC0.out.below hb1 HC0.out.lt)
 clear hb1 HUP HB0 HC0
 go_wp2_with fail
 refine(HLI.out w1 W1.out).mono ?_
 rintro r w1' ⟨b,rfl,hbn,rfl⟩
 have HBN:=Lib.hid hbn
 clear hbn HLI
 obtain⟨q0,q1,q2,q3,q4,q5⟩:=C1.out.cells
 cases b with
 | false=>
   go_wp2_with fail
   go_ret
   exact⟨rfl,W1.out⟩
 | true=>
   by_cases h1:1099511627776<c.n
   ·go_wp2_with fail
    go_ret
    exact⟨rfl,W1.out⟩
   by_cases h2:c.n< -1099511627776
   ·go_wp2_with fail
    go_ret
    exact⟨rfl,W1.out⟩
   have H40:Hid (Lt40 c.n):=Lib.hid (by unfold Lt40;omega)
   obtain⟨hl2,hN2⟩:=HBN.out rfl
   have F:=Lib.hid (HFA.out w1' W1.out hl2 hN2 H40.out)
   have HRF2:=Lib.hid (fun W hW=>HRF.out W hW hl2 hN2 H40.out)
   have HLN:Hid (ln≤60):=Lib.hid hl2
   clear hl2 hN2 HFA HRF HBN
   go_wp2_with fail
   refine F.out.mono ?_
   rintro r w2 ⟨v2,rfl,hrow2,hb2⟩
   have W2:=Lib.hid (W1.out.trans (hb2.mono W1.out.size))
   have C2:=Lib.hid (C1.out.below hb2 C1.out.lt)
   have R2:=Lib.hid hrow2
   clear hb2 hrow2 F C1 q0 q1 q2 q3 q4 q5
   obtain⟨q0,q1,q2,q3,q4,q5⟩:=C2.out.cells
   have F:=Lib.hid (HRF2.out w2 W2.out)
   clear HRF2
   go_wp2_with fail
   refine F.out.mono ?_
   rintro r w3 ⟨v3,rfl,hrow3,hb3⟩
   have W3:=Lib.hid (W2.out.trans (hb3.mono W2.out.size))
   have C3:=Lib.hid (C2.out.below hb3 C2.out.lt)
   have R23:=Lib.hid (R2.out.below hb3)
   have R3:=Lib.hid hrow3
   clear hb3 hrow3 F C2 R2 q0 q1 q2 q3 q4 q5
   obtain⟨q0,q1,q2,q3,q4,q5⟩:=C3.out.cells
   have hmax:(factsK xs c).1.length≤9223372036854775807:=by
    have:=factsK_len xs c
    have:=HM.out
    have:=HLN.out
    omega
   obtain⟨a2,k2,rfl,s2⟩:=R23.out.sits hmax
   obtain⟨a3,k3,rfl,s3⟩:=R3.out.sits hmax
   have S2:=Lib.hid s2
   have S3:=Lib.hid s3
   have HCO:=Lib.hid (factsK_code xs c)
   clear s2 s3 hmax R23 R3
   generalize factsK xs c=fk at*
   obtain⟨fs,ek⟩:=fk
   dsimp only at*
   have F:=Lib.hid (HSA.out w3 W3.out H40.out)
   clear HSA
   go_wp2_with fail
   refine F.out.mono ?_
   rintro r w4 ⟨cs4,rfl,hf4,hb4⟩
   obtain⟨x0,x1,x2,x3,rfl⟩:=hf4.four
   obtain⟨sk,sc,sta,stn,stc,ska,skn,skc,rfl,rfl,rfl,rfl⟩:=(hf4.lies (B:=w4.heap.size) (fun b hb=>hb.2)).form
   have HA4:Hid (Below w3.heap.size w3 (w4.alloc (.cells #[.int .i64 sk,.int .i64 sc,.slice sta stn stc,.slice ska skn skc] 38))):=Lib.hid (hb4.alloc hb4.size _)
   have HFB:=Lib.hid (fbox_new (t:=38) hb4 hf4)
   have W4:=Lib.hid (W3.out.trans (HA4.out.mono W3.out.size))
   have C4:=Lib.hid (C3.out.below HA4.out C3.out.lt)
   clear hf4 hb4 F C3 q0 q1 q2 q3 q4 q5
   obtain⟨q0,q1,q2,q3,q4,q5⟩:=C4.out.cells
   have F:=Lib.hid (HRS.out _ W4.out H40.out)
   clear HRS
   go_wp2_with fail
   refine F.out.mono ?_
   rintro r w5 ⟨cs5,rfl,hf5,hb5⟩
   obtain⟨x0,x1,x2,x3,rfl⟩:=hf5.four
   obtain⟨tk,tc,tta,ttn,ttc,tka,tkn,tkc,rfl,rfl,rfl,rfl⟩:=(hf5.lies (B:=w5.heap.size) (fun b hb=>hb.2)).form
   have HA5:=Lib.hid (hb5.alloc hb5.size (.cells #[.int .i64 tk,.int .i64 tc,.slice tta ttn ttc,.slice tka tkn tkc] 38))
   have HGB:=Lib.hid (fbox_new (t:=38) hb5 hf5)
   have HFB5:=Lib.hid (HFB.out.below HA5.out)
   have W5:=Lib.hid (W4.out.trans (HA5.out.mono W4.out.size))
   have S25:=Lib.hid (S2.out.below (HA4.out.trans (HA5.out.mono HA4.out.size)) (HA4.out.trans (HA5.out.mono HA4.out.size)).size)
   have S35:=Lib.hid (S3.out.below (HA4.out.trans (HA5.out.mono HA4.out.size)) (HA4.out.trans (HA5.out.mono HA4.out.size)).size)
   clear hf5 hb5 F C4 q0 q1 q2 q3 q4 q5 S2 S3 HFB HA4 HA5 W4
   have F:=Lib.hid (sameForms_any a2 a3 _ k2 k3 fs _ S25.out S35.out rfl)
   have CD:=Lib.hid (fun W=>code_erC ek W HCO.out.1 HCO.out.2)
   have CE:=Lib.hid (fun W=>code_erC (sameK c.a c.v).2 W (sameK_codes c.a c.v).1 (sameK_codes c.a c.v).2)
   generalize (sameK c.a c.v).2=es at*
   generalize (sameK c.a c.v).1=fx at*
   clear S25 S35 HCO
   go_wp2_with fail
   refine F.out.mono ?_
   rintro r w6 ⟨rfl,hb6⟩
   have W6:=Lib.hid (W5.out.trans (hb6.mono W5.out.size))
   have B6:=Lib.hid hb6
   clear hb6 F
   go_wp2_with fail
   refine(CD.out w6).mono ?_
   rintro r w7 ⟨rfl,hb7⟩
   have W7:=Lib.hid (W6.out.trans (hb7.mono W6.out.size))
   have B7:=Lib.hid (B6.out.trans (hb7.mono B6.out.size))
   clear hb7 CD
   have HF7:=Lib.hid (HFB5.out.below B7.out)
   have HG7:=Lib.hid (HGB.out.below B7.out)
   obtain⟨f0,f1,f2,f3,_,_,_,_⟩:=HF7.out
   obtain⟨g0,g1,g2,g3,_,_,_,_⟩:=HG7.out
   have X:=Lib.hid (Lf.same2_any 1 fx _ _ w7 (HF7.out.fl.lies (fun b h=>h.2)) (HG7.out.fl.lies (fun b h=>h.2)))
   clear HF7 HG7 HFB5 HGB
   go_wp2_with fail
   refine X.out.mono ?_
   rintro r w8 ⟨rfl,hb8⟩
   have W8:=Lib.hid (W7.out.trans (hb8.mono W7.out.size))
   clear hb8 X f0 f1 f2 f3 g0 g1 g2 g3
   go_wp2_with fail
   refine(CE.out w8).mono ?_
   rintro r w9 ⟨rfl,hb9⟩
   have W9:=Lib.hid (W8.out.trans (hb9.mono W8.out.size))
   clear hb9 CE
   go_wp2_with fail
   go_ret
   exact⟨by simp,W9.out⟩
end
section
open Go.RowKit
theorem takeR_len2 (xs:List CK)(i n:Int):(takeR xs i n).1.length≤xs.length:=by
 unfold takeR
 split
 ·simp
 ·split
  ·simp
  ·exact restTo_len i n xs xs.length
theorem takeR_err (xs:List CK)(i n:Int)(h:¬(takeR xs i n).2=0):(takeR xs i n).1=[]:=by
 unfold takeR at h⊢
 split
 ·rfl
 ·rename_i h1
  rw[if_neg h1]at h
  split
  ·rfl
  ·rename_i h2
   rw[if_neg h2]at h
   exact absurd rfl h
theorem take_next {xs:List CK}{m:Nat}(h:m<xs.length):xs.take (m+1)=xs.take m ++ [xs[m]]:=by
 simp
theorem chunkStays_any (hup:UpSaid20)(la:Option Addr)(ln lcap:Nat)(xs:List CK)(c:CK)(b1 b2:Option Addr)(m1 m2:Nat)(i n:Int)(w:World)(hm:xs.length=ln)(hs:Pak.Sits ckSh (Pak.Lo w.heap.size) w la xs)(hnil:la=none→lcap=0)(hb:∀x∈xs,x.a.2.length*16≤140737488355328∧x.v.2.length*16≤140737488355328)(hc:Lt40 c.n→CkIn w c b1 m1 b2 m2)(hL:Laid w):
 Calls Tryz.prog 6 #[.slice la ln lcap,.agg #[.int .i64 c.a.1,.slice b1 c.a.2.length m1,.string c.f,.int .i64 c.n,.int .i64 c.v.1,.slice b2 c.v.2.length m2],.int .i64 i,.int .i64 n] w fun e w'=>e= .returned (.bool true)∧Below w.heap.size w w':=by
 have n1:=fun W=>Tryz.eqNil W
 have n2:=fun t v W=>Tryz.eqIface t v W
 have HB0:Hid (Below w.heap.size w (w.alloc (.cells #[.int .i64 c.a.1,.slice b1 c.a.2.length m1,.string c.f,.int .i64 c.n,.int .i64 c.v.1,.slice b2 c.v.2.length m2] 27))):=Lib.hid box_low
 have HC0:Hid (C6 (w.alloc (.cells #[.int .i64 c.a.1,.slice b1 c.a.2.length m1,.string c.f,.int .i64 c.n,.int .i64 c.v.1,.slice b2 c.v.2.length m2] 27)) w.heap.size c b1 m1 b2 m2):=Lib.hid c6_new
 have HUP:=Lib.hid (hup (w.alloc (.cells #[.int .i64 c.a.1,.slice b1 c.a.2.length m1,.string c.f,.int .i64 c.n,.int .i64 c.v.1,.slice b2 c.v.2.length m2] 27)) (hL.up HB0.out))
 have HLI:=Lib.hid (fun W (hW:Below w.heap.size w W)=>light_any la ln lcap xs W (hs.below hW hW.size) hm)
 have HFA:=Lib.hid (fun(ao:Option Addr) (ko:Nat) W (ho:Pak.Sits ckSh (Pak.Lo W.heap.size) W ao xs) (hW:Below w.heap.size w W) hl hN h40=>facts_any ao ln ko xs c b1 b2 m1 m2 W ho hm hl hN hb ((hc h40).below hW))
 have HTK:=Lib.hid (fun(ao:Option Addr) (ko:Nat) W (ho:Pak.Sits ckSh (Pak.Lo W.heap.size) W ao xs) hl hN=>take_any ao ln ko xs i n W ho hm hl hN hb)
 have HRF:=Lib.hid (fun W (hW:Below w.heap.size w W) hl hN h40=>rfacts_any la ln lcap xs c b1 b2 m1 m2 W (hs.below hW hW.size) hm hl hnil hN hb ((hc h40).below hW))
 have HSC:=Lib.hid (fun(ao:Option Addr) (ko:Nat) W (ho:Pak.Sits ckSh (Pak.Lo W.heap.size) W ao xs) (hW:Below w.heap.size w W)=>sameChks_any ao la ln ko lcap xs W ho (hs.below hW hW.size) hm (fun x hx=>by have:=hb x hx;omega))
 have HS:=Lib.hid hs
 have HBD:=Lib.hid hb
 have HM:=Lib.hid hm
 clear hup hs hb hL hm hnil hc
 go_enter Tryz.func6,Tryz.ntmps6
 go_wp2_with fail
 refine HUP.out.mono ?_
 rintro r w1 ⟨rfl,hb1⟩
 have W1:=Lib.hid (HB0.out.trans (hb1.mono HB0.out.size))
 have C1:=Lib.hid (HC0.out.below hb1 HC0.out.lt)
 clear hb1 HUP HB0 HC0
 go_wp2_with fail
 refine(HLI.out w1 W1.out).mono ?_
 rintro r w1' ⟨b,rfl,hbn,rfl⟩
 have HBN:=Lib.hid hbn
 clear hbn HLI
 obtain⟨q0,q1,q2,q3,q4,q5⟩:=C1.out.cells
 cases b with
 | false=>
   go_wp2_with fail
   go_ret
   exact⟨rfl,W1.out⟩
 | true=>
   by_cases h1:1099511627776<c.n
   ·go_wp2_with fail
    go_ret
    exact⟨rfl,W1.out⟩
   by_cases h2:c.n< -1099511627776
   ·go_wp2_with fail
    go_ret
    exact⟨rfl,W1.out⟩
   have H40:Hid (Lt40 c.n):=Lib.hid (by unfold Lt40;omega)
   obtain⟨hl2,hN2⟩:=HBN.out rfl
   have HFA2:=Lib.hid (fun ao ko W ho hW=>HFA.out ao ko W ho hW hl2 hN2 H40.out)
   have HTK2:=Lib.hid (fun ao ko W ho=>HTK.out ao ko W ho hl2 hN2)
   have HRF2:=Lib.hid (fun W hW=>HRF.out W hW hl2 hN2 H40.out)
   have hln60:ln≤60:=hl2
   clear hN2 HFA HRF HTK HBN hl2
   go_wp2_with fail
   clear q0 q1 q2 q3 q4 q5 h1 h2
   go_loopw [11,12] (fun v i wr=>∃m:Nat,i= .int .i64 m∧m≤ln∧Hid (OwnL ckSh 27 (w.heap.size+1) (xs.take m) v wr)∧Hid (Below w.heap.size w wr)∧Hid (C6 wr w.heap.size c b1 m1 b2 m2)) (fun _ i _=>ln - (intOf i).toNat)
   case atStart=>exact⟨0,rfl,Nat.zero_le _,OwnL.nil _ _ _ _,W1.out,C1.out⟩
   case round=>
    obtain⟨m,rfl,hm,hrow,hb,hc6⟩:=hrel
    by_cases hlt:m<ln
    ·have hmi:(m:Int)<(ln:Int):=by omega
     have hmx:m<xs.length:=by rw[HM.out];exact hlt
     obtain⟨gl,ol,rfl,hgl,HEL⟩:=ck_cells HS.out (by omega)
     obtain⟨o,a1,k1,a2,k2,hox,hc0⟩:∃o a1 k1 a2 k2,xs[m]'hmx=o∧CkAt w.heap.size w gl (ol+m*6) o a1 k1 a2 k2:=by
      obtain⟨a1,k1,a2,k2,h⟩:=HEL m hmx
      exact⟨_,a1,k1,a2,k2,rfl,h⟩
     have hmem:o∈xs:=by rw[←hox];exact List.getElem_mem hmx
     have hc:=hc0.below hb.out hgl hb.out.size
     obtain⟨a5,k5,w5,a6,k6,w6,v8,w8,⟨hr5,p5,p4⟩,cp5,⟨hr6,r5,r4⟩,cp6,cp7,hr8,own8,bel8⟩:=copy_ck (w.heap.size+1) (xs.take m) o u11 a1 a2 k1 k2 gl (ol+m*6) wr hrow.out hc6.out.lt hc (Nat.lt_of_lt_of_le hgl hb.out.size) (HBD.out o hmem).1 (HBD.out o hmem).2 (by rw[List.length_take];omega)
     have HOWN:Hid (OwnL ckSh 27 (w.heap.size+1) (xs.take (m+1)) v8 w8):=Lib.hid (by rw[take_next hmx,hox];exact own8)
     have HBF:=Lib.hid (hb.out.trans (bel8.mono (Nat.le_succ _)))
     have HCF:=Lib.hid (hc6.out.below bel8 (Nat.lt_succ_self _))
     have c0:=hc.c0
     have c1:=hc.c1
     have c2:=hc.c2
     have c3:=hc.c3
     have c4:=hc.c4
     have c5:=hc.c5
     obtain⟨s0,s1,s2,s3,s4,s5⟩:=cp5.cells
     have f5:=cp5.fr 1
     obtain⟨t0,t1,t2,t3,t4,t5⟩:=cp6.cells
     have f6:=cp6.fr 5
     obtain⟨y0,y1,y2,y3,y4,y5⟩:=cp7.cells
     clear hc0 hc cp5 cp6 cp7 own8 bel8 hrow hb hc6 HEL hmem hox hgl
     go_wp2_with (at_builtin;first
      | (refine Lib.wpList_append_run _ rfl _ _ _ _ rfl _ _ rfl rfl _ _ (hr5 _) ?_;clear hr5)
      | (refine Lib.wpList_append_run _ rfl _ _ _ _ rfl _ _ rfl rfl _ _ (hr6 _) ?_;clear hr6)
      | (refine Lib.wpList_append_run _ rfl _ _ _ _ rfl _ _ rfl rfl _ _ (hr8 _) ?_;clear hr8))
     go_roundw
     case rel=>exact⟨m+1,by go_num,by omega,HOWN,HBF,HCF⟩
     case measure=>simp[intOf];omega
    ·obtain rfl:m=ln:=by omega
     have hlti:¬(m:Int)<(m:Int):=by omega
     have hown0:OwnL ckSh 27 (w.heap.size+1) xs u11 wr:=by have h:=hrow.out;rw[List.take_of_length_le (by rw[HM.out];exact Nat.le_refl _)]at h;exact h
     obtain⟨ao,ko,rfl,so⟩:=hown0.sits (by rw[HM.out];omega)
     rw[HM.out]
     have SO:=Lib.hid so
     have W2:=Lib.hid hb.out
     have C2:=Lib.hid hc6.out
     clear hown0 so hrow hb hc6 HS HBD
     obtain⟨q0,q1,q2,q3,q4,q5⟩:=C2.out.cells
     have F:=Lib.hid (HFA2.out ao ko wr SO.out W2.out)
     go_wp2_with fail
     refine F.out.mono ?_
     rintro r w2 ⟨v2,rfl,_,hb2⟩
     have W3:=Lib.hid (W2.out.trans (hb2.mono W2.out.size))
     have C3:=Lib.hid (C2.out.below hb2 C2.out.lt)
     have SO2:=Lib.hid (SO.out.below hb2 hb2.size)
     clear hb2 F W2 C2 SO q0 q1 q2 q3 q4 q5
     have F:=Lib.hid (HTK2.out ao ko w2 SO2.out)
     clear HTK2
     go_wp2_with fail
     refine F.out.mono ?_
     rintro r w3 ⟨v3,rfl,hrow3,hb3⟩
     have B3:=Lib.hid hb3
     have R3:=Lib.hid hrow3
     have HTL:Hid ((takeR xs i n).1.length≤60):=Lib.hid (by have:=takeR_len2 xs i n;have:=HM.out;omega)
     have HTE:=Lib.hid (takeR_err xs i n)
     clear hb3 hrow3 F
     obtain⟨at3,kt3,rfl,_⟩:=R3.out.sits (by have:=HTL.out;omega)
     have HZ0:Hid (0<(takeR xs i n).1.length→∃g cap,at3=some ⟨g,0,none⟩∧kt3=cap∧ZCk w2.heap.size g (takeR xs i n).1.length cap w3):=Lib.hid fun h=>by
      obtain⟨g,cap,e,hz⟩:=zck_of R3.out h
      injection e with e1 e2 e3
      exact⟨g,cap,e1,e3,hz⟩
     clear R3
     generalize takeR xs i n=tk at*
     obtain⟨tl,te⟩:=tk
     dsimp only at*
     generalize htn:tl.length=tn at*
     have htn60:tn≤60:=HTL.out
     have HTN:=Lib.hid htn
     clear htn
     go_wp2_with fail
     go_loopw [16] (fun i wr=>∃q:Nat,i= .int .i64 q∧q≤tn∧Hid (Below w2.heap.size w2 wr)∧Hid (0<tn→∃g cap,at3=some ⟨g,0,none⟩∧kt3=cap∧ZCk w2.heap.size g tn cap wr)) (fun i _=>tn - (intOf i).toNat)
     case atStart=>exact⟨0,rfl,Nat.zero_le _,B3,HZ0⟩
     case round=>
      obtain⟨q,rfl,hq,hb,hz⟩:=hrel
      clear HZ0 B3
      by_cases hlt3:q<tn
      ·have hqi:(q:Int)<(tn:Int):=by omega
       obtain⟨g,cap,rfl,rfl,hzz⟩:=hz.out (by omega)
       obtain⟨x,hx⟩:=hzz.cell hlt3
       have hf:=hzz.frozen (q*6+3)
       have HBN:=Lib.hid (hb.out.setCell (p:=⟨g,q*6+3,none⟩) hzz.lt.1 (.int .i64 99))
       have HZN:=Lib.hid (hzz.put (q*6+3) (.int .i64 99))
       clear hzz hz hb
       go_wp2_with fail
       go_roundw
       case rel=>exact⟨q+1,by go_num,by omega,HBN,fun _=>⟨_,_,rfl,rfl,HZN.out⟩⟩
       case measure=>simp[intOf];omega
      ·obtain rfl:q=tn:=by omega
       have hlti3:¬(q:Int)<(q:Int):=by omega
       have W4:=Lib.hid (W3.out.trans (hb.out.mono W3.out.size))
       have C4:=Lib.hid (C3.out.below hb.out C3.out.lt)
       have SO4:=Lib.hid (SO2.out.below hb.out hb.out.size)
       clear hz hb W3 C3 SO2
       obtain⟨q0,q1,q2,q3,q4,q5⟩:=C4.out.cells
       have F:=Lib.hid (HFA2.out ao ko wr SO4.out W4.out)
       clear HFA2
       go_wp2_with fail
       refine F.out.mono ?_
       rintro r w5 ⟨v5,rfl,hrow5,hb5⟩
       have W5:=Lib.hid (W4.out.trans (hb5.mono W4.out.size))
       have C5:=Lib.hid (C4.out.below hb5 C4.out.lt)
       have SO5:=Lib.hid (SO4.out.below hb5 hb5.size)
       have R5:=Lib.hid hrow5
       clear hb5 hrow5 F W4 C4 SO4 q0 q1 q2 q3 q4 q5
       obtain⟨q0,q1,q2,q3,q4,q5⟩:=C5.out.cells
       have F:=Lib.hid (HRF2.out w5 W5.out)
       clear HRF2
       go_wp2_with fail
       refine F.out.mono ?_
       rintro r w6 ⟨v6,rfl,hrow6,hb6⟩
       have W6:=Lib.hid (W5.out.trans (hb6.mono W5.out.size))
       have SO6:=Lib.hid (SO5.out.below hb6 hb6.size)
       have hmax:(factsK xs c).1.length≤9223372036854775807:=by
        have:=factsK_len xs c
        have:=HM.out
        omega
       obtain⟨a5,k5,rfl,s5⟩:=(R5.out.below hb6).sits hmax
       obtain⟨a6,k6,rfl,s6⟩:=hrow6.sits hmax
       have S5:=Lib.hid s5
       have S6:=Lib.hid s6
       clear hb6 hrow6 F W5 C5 SO5 R5 s5 s6 hmax q0 q1 q2 q3 q4 q5
       generalize (factsK xs c).2=ek at*
       generalize (factsK xs c).1=fs at*
       have F:=Lib.hid (HSC.out ao ko w6 SO6.out W6.out)
       clear HSC SO6
       go_wp2_with fail
       refine F.out.mono ?_
       rintro r w7 ⟨rfl,hb7⟩
       have W7:=Lib.hid (W6.out.trans (hb7.mono W6.out.size))
       have F2:=Lib.hid (sameForms_any a5 a6 _ k5 k6 fs w7 (S5.out.below hb7 hb7.size) (S6.out.below hb7 hb7.size) rfl)
       clear hb7 F S5 S6 W6
       go_wp2_with fail
       refine F2.out.mono ?_
       rintro r w8 ⟨rfl,hb8⟩
       have W8:=Lib.hid (W7.out.trans (hb8.mono W7.out.size))
       clear hb8 F2 W7
       by_cases hte:te=0
       ·rw[show erV te= .nilIface from if_pos hte]
        clear hte
        go_wp2_with fail
        go_ret
        exact⟨rfl,W8.out⟩
       ·have hz0:q=0:=by
         have h:=HTE.out hte
         have h2:=HTN.out
         rw[h]at h2
         exact h2.symm
        subst hz0
        rw[show erV te= .iface 89 (.int .i64 te) from if_neg hte]
        clear hte
        go_wp2_with fail
        go_ret
        exact⟨rfl,W8.out⟩
end
section
open Go.ChangeShapes Go.WideShapes Go.ChangeAt Go.RowKit
theorem chunkFacts_lifted (hup:UpSaid20)(os:Os)(started:os.Started)(H:Type)(enc:TypeId×Value→H):
 ReturnsInHanded {} Tryz.checked os 3 .any (fun w args=>(Rows.chunkFactsSpec.pre enc Tryz.prog Tryz.f3 [] false w args∧laidMetH Tryz.prog laidL w)∧sizedMet enc Tryz.prog Tryz.f3 (OpenSpec.ofChange Rows.chunkFactsSpec) false w args)
  (Rows.chunkFactsSpec.post enc Tryz.prog Tryz.f3 false true false false):=by
 refine returnsInHanded_of_change_and (C:=Tryz.checked) (X:=fun w _=>laidMetH Tryz.prog laidL w) (fun _ _ _ hh h=>h.of_heap hh) Tryz.own started (by kernel_rfl) Tryz.func3
  (ChangeSpec.witness_at (enc:=enc) (C:=Tryz.checked) (os:=os) (X:=fun w _=>laidMetH Tryz.prog laidL w) false (laidWorld os) #[.slice none 0 0,.agg #[.int .i64 0,.slice none 0 0,.string ⟨#[]⟩,.int .i64 0,.int .i64 0,.slice none 0 0]] 8 rfl (by kernel_rfl) (by kernel_rfl) (by kernel_rfl) (by kernel_rfl) (by kernel_rfl) (laidWorld_met os _)) ?_
 intro W base args ds gs before hval0 hW _ hsz0 hL _
 have hval:∀(j:Nat) t v,Tryz.f3.params[j]? =some t→args[j]? =some v→Value.okWide Tryz.prog W .any base t v:=hval0
 have hW':=hW
 obtain⟨p,q,hA0,hV,rfl,hfz,hnd⟩:=hW
 have hA:DataW.TrodAll enc Tryz.prog W 0 (fun _=>true) true Tryz.f3.params.toList args.toList ds p:=hA0
 rw[Tryz.params3]at hA hval
 obtain⟨v0,vs0,d0,ds0,p0,q0,hargs,rfl,rfl,h0,r0⟩:=trodAll_cons hA
 obtain⟨v1,vs1,d1,ds1,p1,q1,rfl,rfl,rfl,h1,r1⟩:=trodAll_cons r0
 obtain⟨rfl,rfl,rfl⟩:=trodAll_nil r1
 obtain rfl:args= #[v0,v1]:=by cases args;simp_all
 obtain⟨rfl,rfl⟩:=trodVars_none hV
 have k0:=h0
 have lt0:∀x∈p0,x.block<W.heap.size:=by obtain⟨m,hm⟩:=k0;exact DataW.trod_lt m _ _ _ hm
 have k1:=h1
 have lt1:∀x∈p1,x.block<W.heap.size:=by obtain⟨m,hm⟩:=k1;exact DataW.trod_lt m _ _ _ hm
 obtain⟨la,lm,lc,xs,rfl,ll,ls,lb,lnil⟩:=open_chunks2 hsz0 (j:=0) rfl rfl (hval 0 22 v0 rfl rfl) h0
 obtain⟨c,cb1,cb2,cm1,cm2,rfl,lci⟩:=open_chunk hsz0 (j:=1) rfl rfl (hval 1 27 v1 rfl rfl) h1
 have hg:=handle_of_laid hL
 clear hA0 hval0
 refine(chunkFacts_any hup la lm lc xs c cb1 cb2 cm1 cm2 W ll ls lnil lb lci hg).mono fun e W' ⟨he,bel⟩=> ?_
 subst he
 exact⟨_,rfl,_,_,_,[],_,[],hW',trodAll_mk1 (shut_bool Tryz.underlying4 _),(trodAll_cons_mk (Below.trod Tryz.laidOut (by kernel_rfl) (of_decide_eq_true (by kernel_rfl)) k0 bel lt0) (trodAll_cons_mk (Below.trod Tryz.laidOut (by kernel_rfl) (of_decide_eq_true (by kernel_rfl)) k1 bel lt1) trodAll_mk0)),rfl,bel.frame _,fun h=>by cases h⟩
theorem chunkFacts_over (hup:UpSaid20):Rows.ChunkFactsSaid:=
 OpenClaim.holds_of_wide 3 Tryz.f3 rfl rfl rfl rfl rfl rfl rfl ⟨rfl,rfl,rfl,rfl,rfl⟩ rfl rfl rfl rfl rfl (by kernel_rfl) Tryz.func3 (by kernel_rfl)
  (of_decide_eq_true (by kernel_rfl)) (by unfold Func.isWrapper;first | (rw[if_pos (by decide+kernel)];kernel_rfl) | (rw[if_neg (by decide+kernel)];exact⟨rfl,rfl⟩))
  (fun os started H enc _=>chunkFacts_lifted hup os started H enc)
end
section
open Go.ChangeShapes Go.WideShapes Go.ChangeAt Go.RowKit
theorem chunkStays_lifted (hup:UpSaid20)(os:Os)(started:os.Started)(H:Type)(enc:TypeId×Value→H):
 ReturnsInHanded {} Tryz.checked os 6 .any (fun w args=>(Rows.chunkStaysSpec.pre enc Tryz.prog Tryz.f6 [] false w args∧laidMetH Tryz.prog laidL w)∧sizedMet enc Tryz.prog Tryz.f6 (OpenSpec.ofChange Rows.chunkStaysSpec) false w args)
  (Rows.chunkStaysSpec.post enc Tryz.prog Tryz.f6 false true false false):=by
 refine returnsInHanded_of_change_and (C:=Tryz.checked) (X:=fun w _=>laidMetH Tryz.prog laidL w) (fun _ _ _ hh h=>h.of_heap hh) Tryz.own started (by kernel_rfl) Tryz.func6
  (ChangeSpec.witness_at (enc:=enc) (C:=Tryz.checked) (os:=os) (X:=fun w _=>laidMetH Tryz.prog laidL w) false (laidWorld os) #[.slice none 0 0,.agg #[.int .i64 0,.slice none 0 0,.string ⟨#[]⟩,.int .i64 0,.int .i64 0,.slice none 0 0],.int .i64 0,.int .i64 0] 8 rfl (by kernel_rfl) (by kernel_rfl) (by kernel_rfl) (by kernel_rfl) (by kernel_rfl) (laidWorld_met os _)) ?_
 intro W base args ds gs before hval0 hW _ hsz0 hL _
 have hval:∀(j:Nat) t v,Tryz.f6.params[j]? =some t→args[j]? =some v→Value.okWide Tryz.prog W .any base t v:=hval0
 have hW':=hW
 obtain⟨p,q,hA0,hV,rfl,hfz,hnd⟩:=hW
 have hA:DataW.TrodAll enc Tryz.prog W 0 (fun _=>true) true Tryz.f6.params.toList args.toList ds p:=hA0
 rw[Tryz.params6]at hA hval
 obtain⟨v0,vs0,d0,ds0,p0,q0,hargs,rfl,rfl,h0,r0⟩:=trodAll_cons hA
 obtain⟨v1,vs1,d1,ds1,p1,q1,rfl,rfl,rfl,h1,r1⟩:=trodAll_cons r0
 obtain⟨v2,vs2,d2,ds2,p2,q2,rfl,rfl,rfl,h2,r2⟩:=trodAll_cons r1
 obtain⟨v3,vs3,d3,ds3,p3,q3,rfl,rfl,rfl,h3,r3⟩:=trodAll_cons r2
 obtain⟨rfl,rfl,rfl⟩:=trodAll_nil r3
 obtain rfl:args= #[v0,v1,v2,v3]:=by cases args;simp_all
 obtain⟨rfl,rfl⟩:=trodVars_none hV
 have k0:=h0
 have lt0:∀x∈p0,x.block<W.heap.size:=by obtain⟨m,hm⟩:=k0;exact DataW.trod_lt m _ _ _ hm
 have k1:=h1
 have lt1:∀x∈p1,x.block<W.heap.size:=by obtain⟨m,hm⟩:=k1;exact DataW.trod_lt m _ _ _ hm
 have k2:=h2
 have lt2:∀x∈p2,x.block<W.heap.size:=by obtain⟨m,hm⟩:=k2;exact DataW.trod_lt m _ _ _ hm
 have k3:=h3
 have lt3:∀x∈p3,x.block<W.heap.size:=by obtain⟨m,hm⟩:=k3;exact DataW.trod_lt m _ _ _ hm
 obtain⟨la,lm,lc,xs,rfl,ll,ls,lb,lnil⟩:=open_chunks2 hsz0 (j:=0) rfl rfl (hval 0 22 v0 rfl rfl) h0
 obtain⟨c,cb1,cb2,cm1,cm2,rfl,lci⟩:=open_chunk hsz0 (j:=1) rfl rfl (hval 1 27 v1 rfl rfl) h1
 obtain⟨i,rfl,_,_,wf2⟩:=open_int Tryz.underlying3 (hval 2 3 v2 rfl rfl) h2
 obtain⟨n,rfl,_,_,wf3⟩:=open_int Tryz.underlying3 (hval 3 3 v3 rfl rfl) h3
 have hg:=handle_of_laid hL
 clear hA0 hval0
 refine(chunkStays_any hup la lm lc xs c cb1 cb2 cm1 cm2 i n W ll ls lnil lb lci hg).mono fun e W' ⟨he,bel⟩=> ?_
 subst he
 exact⟨_,rfl,_,_,_,[],_,[],hW',trodAll_mk1 (shut_bool Tryz.underlying4 _),(trodAll_cons_mk (Below.trod Tryz.laidOut (by kernel_rfl) (of_decide_eq_true (by kernel_rfl)) k0 bel lt0) (trodAll_cons_mk (Below.trod Tryz.laidOut (by kernel_rfl) (of_decide_eq_true (by kernel_rfl)) k1 bel lt1) (trodAll_cons_mk (Below.trod Tryz.laidOut (by kernel_rfl) (of_decide_eq_true (by kernel_rfl)) k2 bel lt2) (trodAll_cons_mk (Below.trod Tryz.laidOut (by kernel_rfl) (of_decide_eq_true (by kernel_rfl)) k3 bel lt3) trodAll_mk0)))),rfl,bel.frame _,fun h=>by cases h⟩
theorem chunkStays_over (hup:UpSaid20):Rows.ChunkStaysSaid:=
 OpenClaim.holds_of_wide 6 Tryz.f6 rfl rfl rfl rfl rfl rfl rfl ⟨rfl,rfl,rfl,rfl,rfl⟩ rfl rfl rfl rfl rfl (by kernel_rfl) Tryz.func6 (by kernel_rfl)
  (of_decide_eq_true (by kernel_rfl)) (by unfold Func.isWrapper;first | (rw[if_pos (by decide+kernel)];kernel_rfl) | (rw[if_neg (by decide+kernel)];exact⟨rfl,rfl⟩))
  (fun os started H enc _=>chunkStays_lifted hup os started H enc)
end
end Go.Proofs.YtjbkhdbjdahbiaaGreatDoor
