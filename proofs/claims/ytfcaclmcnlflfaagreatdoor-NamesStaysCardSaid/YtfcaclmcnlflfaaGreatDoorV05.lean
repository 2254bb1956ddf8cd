/- Parts of a proof. -/
import Derived.Test.YtfcaclmcnlflfaaGreatDoorV01
import Derived.Test.YtfcaclmcnlflfaaGreatDoorV02
import Derived.Test.YtfcaclmcnlflfaaGreatDoorV03
import Derived.Test.YtfcaclmcnlflfaaGreatDoorV04
import Derived.Test.YtfcaclmcnlflfaaGreatDoorQ13
import Derived.Test.YtfcaclmcnlflfaaGreatDoorQ10
import Derived.Test.YtfcaclmcnlflfaaGreatDoorQ30
import Derived.Test.YtfcaclmcnlflfaaGreatDoorQ29
import Derived.Test.YtfcaclmcnlflfaaGreatDoorQ32
import Derived.Test.YtfcaclmcnlflfaaGreatDoorQ06
import Derived.Test.YtfcaclmcnlflfaaGreatDoorQ31
import Derived.Test.YtfcaclmcnlflfaaGreatDoorRows
import Derived.BigQuiet
set_option linter.unusedVariables false
set_option linter.unusedSimpArgs false
set_option maxHeartbeats 60000000
set_option maxRecDepth 100000
namespace Go.Proofs.YtfcaclmcnlflfaaGreatDoor
section
open Go.RowKit
theorem emp_of {s:ByteArray}(h:s.toList.isEmpty=true):s=⟨#[]⟩:=by
 rw[Lib.toList_data]at h
 cases s with
 | mk d=>
   congr 1
   exact Array.toList_inj.1 (List.isEmpty_iff.1 h)
theorem bif_all {T:Type}{b:Bool}{l:List T}{p:T→Bool}(h:(bif b then l.all p else l.length == 0)=true):∀x∈l,p x=true:=by
 cases b with
 | true=>simpa using h
 | false=>
   intro x hx
   have:l.length=0:=by simpa using h
   rw[List.length_eq_zero_iff.1 this]at hx
   cases hx
theorem noE_sn {nm:ByteArray→Bool}{n:Nat}{e:ET}(h:noE e=true):snE nm (n+1) e=true:=by
 unfold noE at h
 simp only[Bool.and_eq_true,beq_iff_eq]at h
 unfold snE
 have hk:e.ks=[]:=List.length_eq_zero_iff.1 h.2
 rw[if_neg (by omega),if_pos (by omega),h.1.1.2,h.1.2,hk,h.1.1.1]
 rfl
theorem nmS_sizes {nm:ByteArray→Bool}(hnm:∀s,nm s=true→s.size≤32){k:Nat}{p:SP}(h:nmS nm k p=true):p.name.size≤32∧p.field.size≤32∧p.callee.size≤32∧∀x∈p.fields,x.size≤32:=by
 unfold nmS at h
 simp only[Bool.and_eq_true]at h
 obtain⟨⟨⟨⟨h1,h2⟩,h3⟩,_⟩,h5⟩:=h
 have e0:∀s:ByteArray,s.toList.isEmpty=true→s.size≤32:=fun s h=>by rw[emp_of h];decide
 refine⟨?_, ?_, ?_,fun x hx=>hnm x (List.all_eq_true.1 h5 x hx)⟩
 ·cases hk:(k == 9)with
  | true=>
    rw[hk,cond_true,Bool.or_eq_true]at h1
    exact h1.elim (e0 _) (hnm _)
  | false=>
    rw[hk,cond_false]at h1
    cases hb:hasB k 1 with
    | true=>rw[hb,cond_true]at h1;exact hnm _ h1
    | false=>rw[hb,cond_false]at h1;exact e0 _ h1
 ·cases hb:hasB k 2 with
  | true=>rw[hb,cond_true]at h2;exact hnm _ h2
  | false=>rw[hb,cond_false]at h2;exact e0 _ h2
 ·cases hb:hasB k 4 with
  | true=>rw[hb,cond_true]at h3;exact hnm _ h3
  | false=>rw[hb,cond_false]at h3;exact e0 _ h3
theorem snS_inv {nm:ByteArray→Bool}{n:Nat}{s:ST}(h:snS nm (n+1) s=true):(0≤s.p.kind∧s.p.kind<10)∧nmS nm s.p.kind.toNat s.p=true∧(n=0∨snE nm n s.p.e=true)∧(s.p.kind=3→snE nm n s.p.v=true)∧(s.p.kind=6∨s.p.kind=7∨s.p.kind=8→snC nm n s.p.c=true)∧(s.p.kind=7→snA nm n s.p.a=true)∧(∀x∈s.p.args,snE nm n x=true)∧(∀x∈s.p.ghosts,snE nm n x=true)∧(∀x∈s.body,snS nm n x=true)∧(∀x∈s.els,snS nm n x=true):=by
 rw[snS]at h
 split at h
 ·rename_i hk
  simp only[Bool.and_eq_true]at h
  obtain⟨⟨⟨⟨⟨⟨⟨⟨h1,h2⟩,h3⟩,h4⟩,h5⟩,h6⟩,h7⟩,h8⟩,h9⟩:=h
  refine⟨hk,h1, ?_,fun k=> ?_,fun k=> ?_,fun k=> ?_,bif_all h6,bif_all h7,bif_all h8,bif_all h9⟩
  ·cases hb:hasB s.p.kind.toNat 8 with
   | true=>rw[hb,cond_true]at h2;exact .inr h2
   | false=>
     rw[hb,cond_false]at h2
     cases n with
     | zero=>exact .inl rfl
     | succ n=>exact .inr (noE_sn h2)
  ·rw[k]at h3
   rwa [show hasB (3:Int).toNat 16=true by decide,cond_true]at h3
  ·rcases k with k | k | k
   ·rw[k]at h4
    rwa [show hasB (6:Int).toNat 32=true by decide,cond_true]at h4
   ·rw[k]at h4
    rwa [show hasB (7:Int).toNat 32=true by decide,cond_true]at h4
   ·rw[k]at h4
    rwa [show hasB (8:Int).toNat 32=true by decide,cond_true]at h4
  ·rw[k]at h5
   rwa [show hasB (7:Int).toNat 64=true by decide,cond_true]at h5
 ·cases h
theorem ptT_mem {n:Nat}{l:List ST}{x:ST}(h:x∈l):ptT n x≤ptTs n l:=by
 unfold ptTs
 induction l with
 | nil=>cases h
 | cons y l ih=>
   rw[List.map_cons,List.sum_cons]
   rcases List.mem_cons.1 h with rfl | h
   ·omega
   ·have:=ih h;omega
theorem txR_sum (l:List ByteArray):∀k,k≤l.length→(txR l k).size≤((l.take k).map (fun x=>x.size+3)).sum
 | 0,_=>by simp[txR,size_lit]
 | k+1,hk=>by
   have IH:=txR_sum l k (by omega)
   rw[txR_at hk,List.take_succ_eq_append_getElem (by omega),List.map_append,List.sum_append]
   simp only[List.map_cons,List.map_nil,List.sum_cons,List.sum_nil]
   split<;>(simp only[size_app,size_lit,List.size_toArray,List.length_cons,List.length_nil];omega)
theorem txRow_sum (l:List ByteArray):(txRow l).size≤(l.map (fun x=>x.size+3)).sum:=by
 have:=txR_sum l l.length (Nat.le_refl _)
 rwa [List.take_length]at this
theorem sum_le {l:List ByteArray}(h:∀x∈l,x.size≤32):(l.map (fun x=>x.size+3)).sum≤35*l.length:=by
 induction l with
 | nil=>simp
 | cons y l ih=>
   have h1:=h y (by simp)
   have h2:=ih (fun x hx=>h x (List.mem_cons_of_mem _ hx))
   rw[List.map_cons,List.sum_cons,List.length_cons]
   omega
theorem ptE_pos (n:Nat)(e:ET):1≤ptE (n+1) e:=by rw[ptE_succ];omega
theorem sum_E {nm:ByteArray→Bool}(hnm:∀s,nm s=true→s.size≤32)(n:Nat){l:List ET}(h:∀x∈l,snE nm n x=true):((l.map (txE n)).map (fun x=>x.size+3)).sum≤67*ptEs n l:=by
 induction l with
 | nil=>simp[ptEs]
 | cons y l ih=>
   have h0:=h y (by simp)
   have h1:=txE_le hnm n y h0
   have h2:=ih (fun x hx=>h x (List.mem_cons_of_mem _ hx))
   have h3:1≤ptE n y:=by
    cases n with
    | zero=>cases h0
    | succ n=>exact ptE_pos n y
   simp only[ptEs,List.map_cons,List.sum_cons]at h2⊢
   omega
theorem txB_at {f:ST→ByteArray}{l:List ST}{j:Nat}(h:j<l.length):txB f l (j+1)=txB f l j ++ f l[j] ++ ⟨#[32]⟩:=by
 rw[txB,List.getD_eq_getElem?_getD,List.getElem?_eq_getElem h,Option.getD_some]
theorem txB_sum (f:ST→ByteArray)(l:List ST):∀k,k≤l.length→(txB f l k).size≤2+((l.take k).map (fun x=>(f x).size+1)).sum
 | 0,_=>by simp[txB,size_lit]
 | k+1,hk=>by
   have IH:=txB_sum f l k (by omega)
   rw[txB_at hk,List.take_succ_eq_append_getElem (by omega),List.map_append,List.sum_append]
   simp only[List.map_cons,List.map_nil,List.sum_cons,List.sum_nil,size_app,size_lit,List.size_toArray,List.length_cons,List.length_nil]
   omega
theorem txBlk_sum (f:ST→ByteArray)(l:List ST):(txBlk f l).size≤3+(l.map (fun x=>(f x).size+1)).sum:=by
 have:=txB_sum f l l.length (Nat.le_refl _)
 rw[List.take_length]at this
 unfold txBlk
 simp only[size_app,size_lit,List.size_toArray,List.length_cons,List.length_nil]
 omega
theorem sum_S {f:ST→ByteArray}{g:ST→Nat}{l:List ST}(h:∀x∈l,(f x).size+1≤4096*g x):(l.map (fun x=>(f x).size+1)).sum≤4096*(l.map g).sum:=by
 induction l with
 | nil=>simp
 | cons y l ih=>
   have h1:=h y (by simp)
   have h2:=ih (fun x hx=>h x (List.mem_cons_of_mem _ hx))
   simp only[List.map_cons,List.sum_cons]at h2⊢
   omega
theorem txN_le (s:ByteArray):(txN s).size≤s.size+4:=by
 unfold txN
 split
 ·simp only[size_lit,List.size_toArray,List.length_nil];omega
 ·simp only[size_app,size_lit,List.size_toArray,List.length_cons,List.length_nil];omega
structure SLen (n:Nat)(s:ST):Prop where
 name:(txN s.p.name).size≤36
 place:(txP n s.p).size≤64*ptE n s.p.e+35
 row:(txRow s.p.fields).size≤1750
 args:(txRow (s.p.args.map (txE n))).size≤67*ptEs n s.p.args
 ghosts:(txRow (s.p.ghosts.map (txE n))).size≤67*ptEs n s.p.ghosts
theorem txE_le0 {nm:ByteArray→Bool}(hnm:∀s,nm s=true→s.size≤32){n:Nat}{e:ET}(h:n=0∨snE nm n e=true):(txE n e).size≤64*ptE n e:=by
 rcases h with rfl | h
 ·simp[txE,size_lit]
 ·exact txE_le hnm n e h
theorem slen {nm:ByteArray→Bool}(hnm:∀s,nm s=true→s.size≤32){n:Nat}{s:ST}(h:snS nm (n+1) s=true)(hf:s.p.fields.length≤50):SLen n s:=by
 obtain⟨hk,h1,he,_,_,_,ha,hg,_,_⟩:=snS_inv h
 obtain⟨s1,s2,s3,s4⟩:=nmS_sizes hnm h1
 have e1:=txN_le s.p.name
 have e2:=txE_le0 hnm he
 have e3:=txRow_sum s.p.fields
 have e4:=sum_le s4
 have e5:=txRow_sum (s.p.args.map (txE n))
 have e6:=sum_E hnm n ha
 have e7:=txRow_sum (s.p.ghosts.map (txE n))
 have e8:=sum_E hnm n hg
 refine⟨by omega, ?_,by omega,by omega,by omega⟩
 unfold txP
 simp only[size_app,size_lit,List.size_toArray,List.length_cons,List.length_nil]
 omega
theorem txS_le {nm:ByteArray→Bool}(hnm:∀s,nm s=true→s.size≤32):∀(n:Nat) (s:ST),snS nm n s=true→nmT2 n s→(txS n s).size+1≤4096*ptT n s
 | 0,_,h,_=>by cases h
 | n+1,s,h,hn2=>by
   obtain⟨hk,h1,he,hv,hc,ha,hargs,hgh,hb,hel⟩:=snS_inv h
   obtain⟨s1,s2,s3,s4⟩:=nmS_sizes hnm h1
   obtain⟨_,_,_,_,_,nb,ne,hf,_,_,_⟩:=hn2
   obtain⟨L1,L2,L3,L4,L5⟩:=slen hnm h hf
   have e2:=txE_le0 hnm he
   have B:∀l:List ST,(∀x∈l,snS nm n x=true)→(∀x∈l,nmT2 n x)→(txBlk (txS n) l).size≤3+4096*ptTs n l:=fun l hl hl2=>
    Nat.le_trans (txBlk_sum _ _) (Nat.add_le_add_left (sum_S fun x hx=>txS_le hnm n x (hl x hx) (hl2 x hx)) 3)
   have b1:=B s.body hb nb
   have b2:=B s.els hel ne
   rw[ptT_succ,ptEs_two,ptCs_one,show ptAs n [s.p.a]=ptA n s.p.a by simp[ptAs]]
   unfold txS
   by_cases k0:s.p.kind=0
   ·rw[if_pos k0];simp only[size_lit,List.size_toArray,List.length_cons,List.length_nil];omega
   rw[if_neg k0]
   by_cases k1:s.p.kind=1
   ·rw[if_pos k1];simp only[size_app,size_lit,List.size_toArray,List.length_cons,List.length_nil];omega
   rw[if_neg k1]
   by_cases k2:s.p.kind=2
   ·rw[if_pos k2];simp only[size_app,size_lit,List.size_toArray,List.length_cons,List.length_nil];omega
   rw[if_neg k2]
   by_cases k3:s.p.kind=3
   ·rw[if_pos k3];have:=txE_le hnm n _ (hv k3);simp only[size_app,size_lit,List.size_toArray,List.length_cons,List.length_nil];omega
   rw[if_neg k3]
   by_cases k4:s.p.kind=4
   ·rw[if_pos k4];simp only[size_app,size_lit,List.size_toArray,List.length_cons,List.length_nil];omega
   rw[if_neg k4]
   by_cases k5:s.p.kind=5
   ·rw[if_pos k5];simp only[size_app,size_lit,List.size_toArray,List.length_cons,List.length_nil];omega
   rw[if_neg k5]
   by_cases k6:s.p.kind=6
   ·rw[if_pos k6];have:=txC_le hnm n _ (hc (.inl k6));simp only[size_app,size_lit,List.size_toArray,List.length_cons,List.length_nil];omega
   rw[if_neg k6]
   by_cases k7:s.p.kind=7
   ·rw[if_pos k7];have:=txC_le hnm n _ (hc (.inr (.inl k7)));have:=txA_le hnm n _ (ha k7);simp only[size_app,size_lit,List.size_toArray,List.length_cons,List.length_nil];omega
   rw[if_neg k7]
   by_cases k8:s.p.kind=8
   ·rw[if_pos k8];have:=txC_le hnm n _ (hc (.inr (.inr k8)));simp only[size_app,size_lit,List.size_toArray,List.length_cons,List.length_nil];omega
   rw[if_neg k8];simp only[size_app,size_lit,List.size_toArray,List.length_cons,List.length_nil];omega
theorem block_all (n:Nat)(f:ST→ByteArray)(a:Option Addr)(m cap:Nat)(xs:List ST)(w:World)(hm:xs.length=m)(hs:Pak.Sits (stmtSh n) (Pak.Lo w.heap.size) w a xs)(hlen:m≤100000)
 (hk:∀x cs W,x∈xs→(stmtSh n).rel (Pak.Lo W.heap.size) W cs x→Calls Tryz.prog 56 #[.agg cs.toArray] W fun r w'=>r= .returned (.string (f x))∧Below W.heap.size W w')
 (hz:(xs.map (fun x=>(f x).size+1)).sum≤1000000000):
 Calls Tryz.prog 26 #[.slice a m cap] w fun r w'=>r= .returned (.string (txBlk f xs))∧Below w.heap.size w w':=by
 have HS:=Lib.hid hs
 have HM:=Lib.hid hm
 have hmm:m≤9223372036854775807:=by omega
 have HK:=Lib.hid hk
 have HX:Hid (∀j,(hj:j<xs.length)→(f xs[j]).size≤1000000000∧(txB f xs j).size≤1000000002):=Lib.hid fun j hj=>by
  have h1:=txB_sum f xs (j+1) (by omega)
  rw[txB_at hj]at h1
  have h2:∀k,((xs.take k).map (fun x=>(f x).size+1)).sum≤(xs.map (fun x=>(f x).size+1)).sum:=fun k=>by
   conv=>rhs;rw[←List.take_append_drop k xs,List.map_append,List.sum_append]
   omega
  have h3:=h2 (j+1)
  have h4:=txB_sum f xs j (by omega)
  have h5:=h2 j
  rw[List.take_succ_eq_append_getElem hj,List.map_append,List.sum_append]at h3
  simp only[List.map_cons,List.map_nil,List.sum_cons,List.sum_nil]at h3
  exact⟨by omega,by omega⟩
 have HE:Hid (txBlk f xs=txB f xs m ++ ⟨#[125]⟩):=Lib.hid (by rw[txBlk,hm])
 have HF:Hid ((txB f xs m).size≤1000000002):=Lib.hid (by
  have:=txB_sum f xs m (by omega)
  rw[←hm,List.take_length]at this
  rw[←hm]
  omega)
 clear hs hm hk hz hlen
 go_enter Tryz.func26,Tryz.ntmps26
 go_wp2_with fail
 go_loopw [3,4] (fun o i wr=>∃j:Nat,j≤m∧i= .int .i64 j∧o= .string (txB f xs j)∧Hid (Below w.heap.size w wr)) (fun _ i _=>m - (intOf i).toNat)
 case atStart=>exact⟨0,Nat.zero_le _,rfl,rfl,Below.refl _ _⟩
 case round=>
  obtain⟨j,hj,rfl,rfl,hb⟩:=hrel
  by_cases hlt:j<m
  ·have hlx:j<xs.length:=by rw[HM.out];exact hlt
   have hji:(j:Int)<(m:Int):=by omega
   obtain⟨b,off,cs,rfl,hbl,hc,hr⟩:=(HS.out.below hb.out hb.out.size).2 j hlx
   have hlen:=(stmtSh n).len hr
   rw[stmtSh_k]at hlen hc
   have HC:=Lib.hid (cell_add hc)
   have HL:=Lib.hid hlen
   have F:=Lib.hid (HK.out xs[j] cs wr (List.getElem_mem hlx) hr)
   obtain⟨hX,hR⟩:=HX.out j hlx
   have HN:=Lib.hid (txB_at (f:=f) hlx)
   have B0:=Lib.hid hb.out
   clear hc hb hr hlen
   generalize f xs[j]=T at*
   obtain⟨R1,hR1⟩:∃R1,txB f xs (j+1)=R1:=⟨_,rfl⟩
   have HR1:=Lib.hid hR1
   rw[hR1]at HN
   clear hR1
   generalize txB f xs j=R at*
   have s2:¬(R.size+T.size > 9223372036854775807):=by omega
   have s3:¬((R ++ T:ByteArray).size+(⟨#[32]⟩:ByteArray).size > 9223372036854775807):=by
    simp only[size_app,size_lit,List.size_toArray,List.length_cons,List.length_nil];omega
   clear hX hR
   go_wp2_with (refine wpList_load_w rfl 47 _ rfl ⟨b,off+j*35,none⟩ rfl cs _ HC.out Tryz.underlying47 rfl (by rw[HL.out];kernel_rfl) ?_)
   refine F.out.mono ?_
   rintro r w1 ⟨rfl,hb1⟩
   have B1:=Lib.hid (B0.out.trans (hb1.mono B0.out.size))
   clear hb1 B0 F
   go_wp2_with fail
   go_roundw
   case rel=>exact⟨j+1,by omega,by go_num,congrArg Value.string (HN.out.symm.trans HR1.out.symm),B1⟩
   case measure=>simp[intOf];omega
  ·obtain rfl:j=m:=by omega
   have hji:¬(j:Int)<(j:Int):=by omega
   have s2:¬((txB f xs j).size+(⟨#[125]⟩:ByteArray).size > 9223372036854775807):=by
    have:=HF.out
    simp only[size_app,size_lit,List.size_toArray,List.length_cons,List.length_nil];omega
   have B0:=Lib.hid hb.out
   clear hb
   go_wp2_with fail
   go_ret
   exact⟨congrArg (fun s=>Ending.returned (Value.string s)) HE.out.symm,B0.out⟩
end
section
open Go.RowKit
theorem len_E {n:Nat}(l:List ET):l.length≤ptEs (n+1) l:=by
 induction l with
 | nil=>simp
 | cons y l ih=>
   have:=ptE_pos n y
   simp only[ptEs,List.map_cons,List.sum_cons,List.length_cons]at ih⊢
   omega
theorem len_T {n:Nat}(l:List ST):l.length≤ptTs (n+1) l:=by
 induction l with
 | nil=>simp
 | cons y l ih=>
   have:1≤ptT (n+1) y:=by rw[ptT_succ];omega
   simp only[ptTs,List.map_cons,List.sum_cons,List.length_cons]at ih⊢
   omega
theorem textS_any {nm:ByteArray→Bool}(hnm:∀s,nm s=true→s.size≤32):∀(n:Nat) (s:ST) (cs:List Value) (w:World),(stmtSh n).rel (Pak.Lo w.heap.size) w cs s→snS nm n s=true→nmT2 n s→ptT n s≤100000→
 Calls Tryz.prog 56 #[.agg cs.toArray] w fun r w'=>r= .returned (.string (txS n s))∧Below w.heap.size w w'
 | 0,_,_,_,h,_,_,_=>h.elim
 | n+1,s,cs,w,h,hsn,hn2,hpt=>by
   obtain⟨ce,cv,cc,ca,a1,a2,a3,a4,a5,c1,c2,c3,c4,c5,H⟩:=stmt_is h
   obtain⟨hk,h1,he0,hv,hc,ha,hargs,hgh,hb,hel⟩:=snS_inv hsn
   obtain⟨s1,s2,s3,s4⟩:=nmS_sizes hnm h1
   obtain⟨L1,L2,L3,L4,L5⟩:=slen hnm hsn hn2.2.2.2.2.2.2.2.1
   obtain⟨_,_,_,_,_,nb,ne,hf,_,_,_⟩:=hn2
   obtain⟨n',rfl⟩:∃n',n=n'+1:=by
    cases n with
    | zero=>exact H.ra.elim
    | succ n'=>exact⟨n',rfl⟩
   have he:snE nm (n'+1) s.p.e=true:=he0.resolve_left (by omega)
   rw[ptT_succ,ptEs_two,ptCs_one,show ptAs (n'+1) [s.p.a]=ptA (n'+1) s.p.a by simp[ptAs]]at hpt
   have q0:=H.kind
   have le:=((exprSh (n'+1)).len H.re).trans (exprSh_k _)
   have lv:=((exprSh (n'+1)).len H.rv).trans (exprSh_k _)
   have lc:=((condSh (n'+1)).len H.rc).trans (condSh_k _)
   have la:=((assnSh (n'+1)).len H.ra).trans (assnSh_k _)
   have hE:ValAll 54 #[.agg ce.toArray] (.string (txE (n'+1) s.p.e)) w:=fun W hW=>textE_any hnm (n'+1) s.p.e ce W (rel_low H.re hW) he (by omega)
   have zE:=txE_le hnm (n'+1) _ he
   have hV:s.p.kind=3→ValAll 54 #[.agg cv.toArray] (.string (txE (n'+1) s.p.v)) w∧(txE (n'+1) s.p.v).size≤10000000:=fun k=>⟨fun W hW=>textE_any hnm (n'+1) s.p.v cv W (rel_low H.rv hW) (hv k) (by omega),by have:=txE_le hnm (n'+1) _ (hv k);omega⟩
   have hC:(s.p.kind=6∨s.p.kind=7∨s.p.kind=8)→ValAll 53 #[.agg cc.toArray] (.string (txC (n'+1) s.p.c)) w∧(txC (n'+1) s.p.c).size≤10000000:=fun k=>⟨fun W hW=>textC_any hnm (n'+1) s.p.c cc W (rel_low H.rc hW) (hc k) (by omega),by have:=txC_le hnm (n'+1) _ (hc k);omega⟩
   have hA:s.p.kind=7→ValAll 25 #[.agg ca.toArray] (.string (txA (n'+1) s.p.a)) w∧(txA (n'+1) s.p.a).size≤100000000:=fun k=>⟨fun W hW=>textA_any hnm (n'+1) s.p.a ca W (rel_low H.ra hW) (ha k) (by omega),by have:=txA_le hnm (n'+1) _ (ha k);omega⟩
   have BL:∀(l:List ST) (a:Option Addr) (c:Nat),Pak.Sits (stmtSh (n'+1)) (Pak.Lo w.heap.size) w a l→(∀x∈l,snS nm (n'+1) x=true)→(∀x∈l,nmT2 (n'+1) x)→ptTs (n'+1) l≤100000→ValAll 26 #[.slice a l.length c] (.string (txBlk (txS (n'+1)) l)) w∧(txBlk (txS (n'+1)) l).size≤1000000003:=fun l a c hs hl hl2 hp=>by
    have z:(l.map (fun x=>(txS (n'+1) x).size+1)).sum≤1000000000:=by
     have:(l.map (fun x=>(txS (n'+1) x).size+1)).sum≤4096*ptTs (n'+1) l:=sum_S (fun x hx=>txS_le hnm (n'+1) x (hl x hx) (hl2 x hx))
     omega
    refine⟨fun W hW=>block_all (n'+1) (txS (n'+1)) a _ c l W rfl (hs.below hW hW.size) (Nat.le_trans (len_T (n:=n') l) hp) (fun x cs V hx hr=>textS_any hnm (n'+1) x cs V hr (hl x hx) (hl2 x hx) (Nat.le_trans (ptT_mem hx) hp)) z, ?_⟩
    have:=txBlk_sum (txS (n'+1)) l
    omega
   obtain⟨hX,zX⟩:=BL s.body a4 c4 H.rbody hb nb (by omega)
   obtain⟨hY,zY⟩:=BL s.els a5 c5 H.rels hel ne (by omega)
   have hR:ValAll 24 #[.slice a3 s.p.fields.length c3] (.string (txRow s.p.fields)) w:=fun W hW=>row_any a3 _ c3 32 s.p.fields W rfl (H.rfields.below hW hW.size) s4 (by omega) (by omega)
   have hG:ValAll 95 #[.slice a1 s.p.args.length c1] (.string (txRow (s.p.args.map (txE (n'+1))))) w:=fun W hW=>textEs_any hnm (n'+1) a1 _ c1 s.p.args W rfl (H.rargs.below hW hW.size) hargs (by omega) (by have:=len_E (n:=n') s.p.args;omega)
   have hH:ValAll 95 #[.slice a2 s.p.ghosts.length c2] (.string (txRow (s.p.ghosts.map (txE (n'+1))))) w:=fun W hW=>textEs_any hnm (n'+1) a2 _ c2 s.p.ghosts W rfl (H.rghosts.below hW hW.size) hgh (by omega) (by have:=len_E (n:=n') s.p.ghosts;omega)
   have q1:=H.name
   have q2:=H.field
   unfold txS txP
   by_cases hn:s.p.name=⟨#[]⟩
   ·rw[txN,if_pos hn]
    rw[hn]at q1
    by_cases k0:s.p.kind=0
    ·rw[if_pos k0]
     rw[k0]at q0
     exact textS_0e cs ce _ (by omega) _ (by omega) w q0 q1 q2 H.pe le hE
    rw[if_neg k0]
    by_cases k1:s.p.kind=1
    ·rw[if_pos k1]
     rw[k1]at q0
     exact textS_1e cs ce _ (by omega) _ (by omega) w q0 q1 q2 H.pe le hE
    rw[if_neg k1]
    by_cases k2:s.p.kind=2
    ·rw[if_pos k2]
     rw[k2]at q0
     exact textS_2e cs ce _ (by omega) _ (by omega) w q0 q1 q2 H.pe le hE
    rw[if_neg k2]
    by_cases k3:s.p.kind=3
    ·rw[if_pos k3]
     rw[k3]at q0
     obtain⟨hv1,zV⟩:=hV k3
     exact textS_3e cs ce cv _ (by omega) _ (by omega) _ (by omega) w q0 q1 q2 H.pe le H.pv lv hE hv1
    rw[if_neg k3]
    by_cases k4:s.p.kind=4
    ·rw[if_pos k4]
     rw[k4]at q0
     exact textS_4e cs ce _ (by omega) _ (by omega) _ (by omega) a3 _ c3 w q0 q1 q2 H.pe le H.fields hE hR
    rw[if_neg k4]
    by_cases k5:s.p.kind=5
    ·rw[if_pos k5]
     rw[k5]at q0
     exact textS_5e cs ce _ (by omega) _ (by omega) w q0 q1 q2 H.pe le hE
    rw[if_neg k5]
    by_cases k6:s.p.kind=6
    ·rw[if_pos k6]
     rw[k6]at q0
     obtain⟨hc1,zC⟩:=hC (.inl k6)
     exact textS_6e cs ce cc _ (by omega) _ (by omega) _ (by omega) _ (by omega) _ (by omega) a4 _ c4 a5 _ c5 w q0 q1 q2 H.pe le H.pc lc H.body H.els hE hc1 hX hY
    rw[if_neg k6]
    by_cases k7:s.p.kind=7
    ·rw[if_pos k7]
     rw[k7]at q0
     obtain⟨hc1,zC⟩:=hC (.inr (.inl k7))
     obtain⟨ha1,zA⟩:=hA k7
     exact textS_7e cs ce cc ca _ (by omega) _ (by omega) _ (by omega) _ (by omega) _ (by omega) a4 _ c4 w q0 q1 q2 H.pe le H.pc lc H.pa la H.body hE hc1 ha1 hX
    rw[if_neg k7]
    by_cases k8:s.p.kind=8
    ·rw[if_pos k8]
     rw[k8]at q0
     obtain⟨hc1,zC⟩:=hC (.inr (.inr k8))
     exact textS_8e cs ce cc _ (by omega) _ (by omega) _ (by omega) w q0 q1 q2 H.pe le H.pc lc hE hc1
    rw[if_neg k8]
    have k9:s.p.kind=9:=by omega
    rw[k9]at q0
    exact textS_9e cs ce _ (by omega) _ (by omega) _ (by omega) _ (by omega) _ (by omega) a1 _ c1 a2 _ c2 w q0 q1 q2 H.pe le H.callee H.args H.ghosts hE hG hH
   ·rw[txN,if_neg hn]
    by_cases k0:s.p.kind=0
    ·rw[if_pos k0]
     rw[k0]at q0
     exact textS_0n cs ce _ (by omega) hn _ (by omega) _ (by omega) w q0 q1 q2 H.pe le hE
    rw[if_neg k0]
    by_cases k1:s.p.kind=1
    ·rw[if_pos k1]
     rw[k1]at q0
     exact textS_1n cs ce _ (by omega) hn _ (by omega) _ (by omega) w q0 q1 q2 H.pe le hE
    rw[if_neg k1]
    by_cases k2:s.p.kind=2
    ·rw[if_pos k2]
     rw[k2]at q0
     exact textS_2n cs ce _ (by omega) hn _ (by omega) _ (by omega) w q0 q1 q2 H.pe le hE
    rw[if_neg k2]
    by_cases k3:s.p.kind=3
    ·rw[if_pos k3]
     rw[k3]at q0
     obtain⟨hv1,zV⟩:=hV k3
     exact textS_3n cs ce cv _ (by omega) hn _ (by omega) _ (by omega) _ (by omega) w q0 q1 q2 H.pe le H.pv lv hE hv1
    rw[if_neg k3]
    by_cases k4:s.p.kind=4
    ·rw[if_pos k4]
     rw[k4]at q0
     exact textS_4n cs ce _ (by omega) hn _ (by omega) _ (by omega) _ (by omega) a3 _ c3 w q0 q1 q2 H.pe le H.fields hE hR
    rw[if_neg k4]
    by_cases k5:s.p.kind=5
    ·rw[if_pos k5]
     rw[k5]at q0
     exact textS_5n cs ce _ (by omega) hn _ (by omega) _ (by omega) w q0 q1 q2 H.pe le hE
    rw[if_neg k5]
    by_cases k6:s.p.kind=6
    ·rw[if_pos k6]
     rw[k6]at q0
     obtain⟨hc1,zC⟩:=hC (.inl k6)
     exact textS_6n cs ce cc _ (by omega) hn _ (by omega) _ (by omega) _ (by omega) _ (by omega) _ (by omega) a4 _ c4 a5 _ c5 w q0 q1 q2 H.pe le H.pc lc H.body H.els hE hc1 hX hY
    rw[if_neg k6]
    by_cases k7:s.p.kind=7
    ·rw[if_pos k7]
     rw[k7]at q0
     obtain⟨hc1,zC⟩:=hC (.inr (.inl k7))
     obtain⟨ha1,zA⟩:=hA k7
     exact textS_7n cs ce cc ca _ (by omega) hn _ (by omega) _ (by omega) _ (by omega) _ (by omega) _ (by omega) a4 _ c4 w q0 q1 q2 H.pe le H.pc lc H.pa la H.body hE hc1 ha1 hX
    rw[if_neg k7]
    by_cases k8:s.p.kind=8
    ·rw[if_pos k8]
     rw[k8]at q0
     obtain⟨hc1,zC⟩:=hC (.inr (.inr k8))
     exact textS_8n cs ce cc _ (by omega) hn _ (by omega) _ (by omega) _ (by omega) w q0 q1 q2 H.pe le H.pc lc hE hc1
    rw[if_neg k8]
    have k9:s.p.kind=9:=by omega
    rw[k9]at q0
    exact textS_9n cs ce _ (by omega) hn _ (by omega) _ (by omega) _ (by omega) _ (by omega) _ (by omega) a1 _ c1 a2 _ c2 w q0 q1 q2 H.pe le H.callee H.args H.ghosts hE hG hH
end
section
open Go.RowKit
def shQ (n:Nat)(q:QT)(o:ByteArray):ByteArray:=
 o ++ ⟨#[112,114,111,99,32]⟩ ++ q.name ++ ⟨#[32,40,32]⟩ ++ txRow q.params ++ ⟨#[59,32]⟩ ++ txRow q.ghosts ++ ⟨#[41,32,114,101,113,117,105,114,101,115,32]⟩ ++ txA n q.pre ++ ⟨#[32,101,110,115,117,114,101,115,32]⟩ ++ txA n q.post ++ ⟨#[32]⟩ ++ txBlk (txS n) q.body
def shG (n:Nat)(l:List QT):Nat→ByteArray
 | 0=>⟨#[]⟩
 | k+1=>shQ n (l.getD k ⟨⟨#[]⟩,[],[],default,default,[]⟩) (if 0<k then shG n l k ++ ⟨#[32]⟩ else shG n l k)
theorem shG_at {n:Nat}{l:List QT}{j:Nat}(h:j<l.length):shG n l (j+1)=shQ n l[j] (if 0<j then shG n l j ++ ⟨#[32]⟩ else shG n l j):=by
 rw[shG,List.getD_eq_getElem?_getD,List.getElem?_eq_getElem h,Option.getD_some]
def shwS (nm:ByteArray→Bool)(n:Nat)(qs:List QT):ByteArray×Int:=
 if chkQ nm n qs≠0 then(⟨#[]⟩,chkQ nm n qs) else if 65536<(shG n qs qs.length).size then(⟨#[]⟩,2) else(shG n qs qs.length,0)
def TxtInt (x:ByteArray×Int)(w:World)(r:Ending)(w':World):Prop:=r= .returned (.tuple #[.string x.1,.int .i64 x.2])∧Below w.heap.size w w'
theorem nmB_le (s:ByteArray)(h:nmB s=true):s.size≤32:=by
 unfold nmB nameB at h
 simp only[Bool.and_eq_true,decide_eq_true_eq]at h
 exact h.1.1.2
structure QLen (n:Nat)(q:QT):Prop where
 name:q.name.size≤32
 params:(txRow q.params).size≤1750
 ghosts:(txRow q.ghosts).size≤1750
 pre:(txA n q.pre).size≤76800
 post:(txA n q.post).size≤76800
 body:(txBlk (txS n) q.body).size≤2457603
theorem snQ_inv {nm:ByteArray→Bool}{n:Nat}{q:QT}(h:snQ nm n q=true):nm q.name=true∧(∀x∈q.params,nm x=true)∧(∀x∈q.ghosts,nm x=true)∧snA nm n q.pre=true∧snA nm n q.post=true∧∀x∈q.body,snS nm n x=true:=by
 unfold snQ at h
 simp only[Bool.and_eq_true,List.all_eq_true]at h
 obtain⟨⟨⟨⟨⟨h1,h2⟩,h3⟩,h4⟩,h5⟩,h6⟩:=h
 exact⟨h1,h2,h3,h4,h5,h6⟩
theorem sum_body {nm:ByteArray→Bool}(hnm:∀s,nm s=true→s.size≤32){n:Nat}{l:List ST}(h:∀x∈l,snS nm n x=true)(h2:∀x∈l,nmT2 n x):(l.map (fun x=>(txS n x).size+1)).sum≤4096*ptTs n l:=sum_S (fun x hx=>txS_le hnm n x (h x hx) (h2 x hx))
theorem qlen {nm:ByteArray→Bool}(hnm:∀s,nm s=true→s.size≤32){n:Nat}{q:QT}(h:snQ nm n q=true)(ho:OkQ n 600 q):QLen n q:=by
 obtain⟨h1,h2,h3,h4,h5,h6⟩:=snQ_inv h
 obtain⟨o1,o2,_,_,o5,o6,o7⟩:=ho
 have e1:=txRow_sum q.params
 have e2:=sum_le fun x hx=>hnm x (h2 x hx)
 have e3:=txRow_sum q.ghosts
 have e4:=sum_le fun x hx=>hnm x (h3 x hx)
 have e5:=txA_le hnm n _ h4
 have e6:=txA_le hnm n _ h5
 have e7:=txBlk_sum (txS n) q.body
 have e8:=sum_body hnm h6 o6
 rw[ptAs_two]at o5
 exact⟨hnm _ h1,by omega,by omega,by omega,by omega,by omega⟩
theorem shQ_le {n:Nat}{q:QT}(h:QLen n q)(o:ByteArray):(shQ n q o).size≤o.size+3000000:=by
 obtain⟨h1,h2,h3,h4,h5,h6⟩:=h
 unfold shQ
 simp only[size_app,size_lit,List.size_toArray,List.length_cons,List.length_nil]
 omega
theorem shG_le {n:Nat}{l:List QT}(h:∀x∈l,QLen n x):∀k,k≤l.length→(shG n l k).size≤k*3000001
 | 0,_=>by simp[shG,size_lit]
 | k+1,hk=>by
   have IH:=shG_le h k (by omega)
   have hx:=shQ_le (h l[k] (List.getElem_mem (by omega))) (if 0<k then shG n l k ++ ⟨#[32]⟩ else shG n l k)
   rw[shG_at hk]
   have e:(if 0<k then shG n l k ++ ⟨#[32]⟩ else shG n l k).size≤(shG n l k).size+1:=by
    split
    ·simp only[size_app,size_lit,List.size_toArray,List.length_cons,List.length_nil];omega
    ·omega
   omega
theorem len_body {n:Nat}{S:Nat→Prop}{w:World}{a:Option Addr}{l:List ST}(h:Pak.Sits (stmtSh n) S w a l)(hp:ptTs n l≤600):l.length≤100000:=by
 cases n with
 | zero=>
   cases l with
   | nil=>simp
   | cons x l=>
     obtain⟨_,_,_,_,_,_,hr⟩:=h.2 0 (by simp)
     exact hr.elim
 | succ n=>exact Nat.le_trans (len_T (n:=n) l) (by omega)
theorem rshow_any (n:Nat)(qs:List QT)(a:Option Addr)(m cap:Nat)(w:World)(hm:qs.length=m)(hs:Pak.Sits (procSh n) (Pak.Lo w.heap.size) w a qs)(h50:m≤50)(hq:∀q∈qs,OkQ n 600 q):
 Calls Tryz.prog 10 #[.agg #[.slice a m cap]] w (TxtInt (shwS nmB n qs) w):=by
 have HA0:Hid (Below w.heap.size w (w.alloc (.cells #[.slice a m cap] 24))):=box_low
 have HS:=Lib.hid hs
 have HM:=Lib.hid hm
 have hmm:m≤9223372036854775807:=by omega
 have HQ:=Lib.hid hq
 have HM5:=Lib.hid h50
 have c0:=(Bx.start w [.slice a m cap] 24).at (o:=0) rfl
 have HCL:Hid (∀W,Below (w.alloc (.cells #[.slice a m cap] 24)).heap.size (w.alloc (.cells #[.slice a m cap] 24)) W→W.cell? ⟨w.heap.size,0,none⟩=some (.slice a m cap)):=fun W hb=>box_at (cs:=[.slice a m cap]) rfl hb
 have FC:=Lib.hid (rcheck_prog (fun s w hs=>rnmLaw s w hs) n qs a m cap (w.alloc (.cells #[.slice a m cap] 24)) hm (hs.below HA0.out HA0.out.size))
 obtain⟨z,hz⟩:∃z,chkQ nmB n qs=z:=⟨_,rfl⟩
 rw[hz]at FC
 have HZ:=Lib.hid hz
 clear hs hm h50 hq hz
 by_cases h0:z=0
 ·subst h0
  have HOK:Hid (∀q∈qs,snQ nmB n q=true):=Lib.hid (chk_sound HZ.out)
  have HX:Hid (∀q∈qs,QLen n q):=Lib.hid fun q hq=>qlen nmB_le (HOK.out q hq) (HQ.out q hq)
  have HG:Hid (∀j,j≤m→(shG n qs j).size≤50*3000001):=Lib.hid fun j hj=>Nat.le_trans (shG_le HX.out j (by rw[HM.out];exact hj)) (Nat.mul_le_mul_right _ (by have:=HM5.out;omega))
  go_enter Tryz.func10,Tryz.ntmps10
  go_wp2_with fail
  refine FC.out.mono ?_
  rintro r w1 ⟨rfl,hb⟩
  have HB1:=Lib.hid hb
  clear hb FC c0
  go_wp2_with fail
  go_loopw [5,6] (fun o i wr=>∃j:Nat,j≤m∧i= .int .i64 j∧o= .string (shG n qs j)∧Hid (Below (w.alloc (.cells #[.slice a m cap] 24)).heap.size (w.alloc (.cells #[.slice a m cap] 24)) wr)) (fun _ i _=>m - (intOf i).toNat)
  case atStart=>exact⟨0,Nat.zero_le _,rfl,rfl,HB1⟩
  case round=>
   obtain⟨j,hj,rfl,rfl,hb⟩:=hrel
   obtain⟨wo,rfl⟩:∃wo:World,wo=wr:=⟨_,rfl⟩
   have HWO:=Lib.hid (HA0.out.trans (hb.out.mono HA0.out.size))
   have k0:=HCL.out _ hb.out
   by_cases hlt:j<m
   ·have hlx:j<qs.length:=by rw[HM.out];exact hlt
    have hji:(j:Int)<(m:Int):=by omega
    obtain⟨b,off,cs,rfl,hbl,hc,hr⟩:=(HS.out.below HWO.out HWO.out.size).2 j hlx
    have hlen:=(procSh n).len hr
    have hone:=(procSh n).one hr
    rw[procSh_k]at hlen hc
    have HC0:Hid (∀i v,cs[i]? =some v→wo.cell? ((⟨b,off+j*34,none⟩:Addr).add i)=some v):=fun i v hv=>by
     rw[show(⟨b,off+j*34,none⟩:Addr).add i=⟨b,off+j*34+i,none⟩ by unfold Addr.add;split<;>simp_all]
     exact hc i v hv
    have hA:Below wo.heap.size wo (wo.alloc (.cells cs.toArray 49)):=box_low
    obtain⟨ca,cb,a1,a2,a3,c1,c2,c3,H⟩:=proc_is hr
    have hmem:=List.getElem_mem hlx
    obtain⟨g1,g2,g3,g4,g5,g6⟩:=snQ_inv (HOK.out _ hmem)
    obtain⟨zN,zP,zG,zA,zB,zS⟩:=HX.out _ hmem
    obtain⟨o1,o2,_,_,o5,o6,o7⟩:=HQ.out _ hmem
    rw[ptAs_two]at o5
    have P1:=Lib.hid (fun W (hb:Below (wo.alloc (.cells cs.toArray 49)).heap.size (wo.alloc (.cells cs.toArray 49)) W)=>box_part H.pre hb)
    have P2:=Lib.hid (fun W (hb:Below (wo.alloc (.cells cs.toArray 49)).heap.size (wo.alloc (.cells cs.toArray 49)) W)=>box_part H.post hb)
    have L1:=Lib.hid (((assnSh n).len H.rpre).trans (assnSh_k n))
    have L2:=Lib.hid (((assnSh n).len H.rpost).trans (assnSh_k n))
    have d0:=fun d os=>cell_regrown (box_at (t:=49) H.name (Below.refl _ (wo.alloc (.cells cs.toArray 49)))) d os
    have d1:=fun d os=>cell_regrown (box_at (t:=49) H.params (Below.refl _ (wo.alloc (.cells cs.toArray 49)))) d os
    have d2:=fun d os=>cell_regrown (box_at (t:=49) H.ghosts (Below.refl _ (wo.alloc (.cells cs.toArray 49)))) d os
    have d33:=fun d os=>cell_regrown (box_at (t:=49) H.body (Below.refl _ (wo.alloc (.cells cs.toArray 49)))) d os
    have r1:=(show ValAll 24 #[.slice a1 qs[j].params.length c1] (.string (txRow qs[j].params)) (wo.alloc (.cells cs.toArray 49)) from fun W hW=>row_any a1 _ c1 32 _ W rfl ((H.rparams.below hA hA.size).below hW hW.size) (fun x hx=>nmB_le x (g2 x hx)) (by omega) (by omega)).reg
    have r2:=(show ValAll 24 #[.slice a2 qs[j].ghosts.length c2] (.string (txRow qs[j].ghosts)) (wo.alloc (.cells cs.toArray 49)) from fun W hW=>row_any a2 _ c2 32 _ W rfl ((H.rghosts.below hA hA.size).below hW hW.size) (fun x hx=>nmB_le x (g3 x hx)) (by omega) (by omega)).reg
    have r3:=(show ValAll 25 #[.agg ca.toArray] (.string (txA n qs[j].pre)) (wo.alloc (.cells cs.toArray 49)) from fun W hW=>textA_any nmB_le n _ ca W (rel_low (rel_low H.rpre hA) hW) g4 (by omega)).reg
    have r4:=(show ValAll 25 #[.agg cb.toArray] (.string (txA n qs[j].post)) (wo.alloc (.cells cs.toArray 49)) from fun W hW=>textA_any nmB_le n _ cb W (rel_low (rel_low H.rpost hA) hW) g5 (by omega)).reg
    have r5:=(show ValAll 26 #[.slice a3 qs[j].body.length c3] (.string (txBlk (txS n) qs[j].body)) (wo.alloc (.cells cs.toArray 49)) from fun W hW=>block_all n (txS n) a3 _ c3 _ W rfl ((H.rbody.below hA hA.size).below hW hW.size) (len_body H.rbody o7) (fun x cs V hx hr=>textS_any nmB_le n x cs V hr (g6 x hx) (o6 x hx) (Nat.le_trans (ptT_mem hx) (Nat.le_trans o7 (by decide)))) (by have:=sum_body nmB_le g6 o6;omega)).reg
    have HL:=Lib.hid hlen
    have HO:=Lib.hid hone
    have HB:=Lib.hid (hb.out.trans (hA.mono hb.out.size))
    have hR:=HG.out j hj
    have hN:=shG_at (n:=n) hlx
    unfold shQ at hN
    obtain⟨R1,hR1⟩:∃R1,shG n qs (j+1)=R1:=⟨_,rfl⟩
    have HR1:=Lib.hid hR1
    rw[hR1]at hN
    clear hR1 hc hr hlen hone H hA hmem g1 g2 g3 g4 g5 g6 o1 o2 o5 o6 o7
    generalize shG n qs j=R at*
    generalize qs[j].name=NA at*
    generalize txRow qs[j].params=PA at*
    generalize txRow qs[j].ghosts=GH at*
    generalize txA n qs[j].pre=TA at*
    generalize txA n qs[j].post=TB at*
    generalize txBlk (txS n) qs[j].body=TS at*
    generalize qs[j].params.length=l1 at*
    generalize qs[j].ghosts.length=l2 at*
    generalize qs[j].body.length=l3 at*
    by_cases h0:0<j
    ·
     rw[if_pos h0]at hN
     have h0i:(0:Int)<(j:Int):=by omega
     have z1:¬(R.size+(⟨#[32]⟩:ByteArray).size > 9223372036854775807):=by
      simp only[size_app,size_lit,brk_size,List.size_toArray,List.length_cons,List.length_nil];omega
     have s1:¬(((R ++ ⟨#[32]⟩):ByteArray).size+(⟨#[112,114,111,99,32]⟩:ByteArray).size > 9223372036854775807):=by
      simp only[size_app,size_lit,brk_size,List.size_toArray,List.length_cons,List.length_nil];omega
     have s2:¬(((R ++ ⟨#[32]⟩) ++ ⟨#[112,114,111,99,32]⟩:ByteArray).size+(NA:ByteArray).size > 9223372036854775807):=by
      simp only[size_app,size_lit,brk_size,List.size_toArray,List.length_cons,List.length_nil];omega
     have s3:¬(((R ++ ⟨#[32]⟩) ++ ⟨#[112,114,111,99,32]⟩ ++ NA:ByteArray).size+(⟨#[32,40,32]⟩:ByteArray).size > 9223372036854775807):=by
      simp only[size_app,size_lit,brk_size,List.size_toArray,List.length_cons,List.length_nil];omega
     have s4:¬(((R ++ ⟨#[32]⟩) ++ ⟨#[112,114,111,99,32]⟩ ++ NA ++ ⟨#[32,40,32]⟩:ByteArray).size+(PA:ByteArray).size > 9223372036854775807):=by
      simp only[size_app,size_lit,brk_size,List.size_toArray,List.length_cons,List.length_nil];omega
     have s5:¬(((R ++ ⟨#[32]⟩) ++ ⟨#[112,114,111,99,32]⟩ ++ NA ++ ⟨#[32,40,32]⟩ ++ PA:ByteArray).size+(⟨#[59,32]⟩:ByteArray).size > 9223372036854775807):=by
      simp only[size_app,size_lit,brk_size,List.size_toArray,List.length_cons,List.length_nil];omega
     have s6:¬(((R ++ ⟨#[32]⟩) ++ ⟨#[112,114,111,99,32]⟩ ++ NA ++ ⟨#[32,40,32]⟩ ++ PA ++ ⟨#[59,32]⟩:ByteArray).size+(GH:ByteArray).size > 9223372036854775807):=by
      simp only[size_app,size_lit,brk_size,List.size_toArray,List.length_cons,List.length_nil];omega
     have s7:¬(((R ++ ⟨#[32]⟩) ++ ⟨#[112,114,111,99,32]⟩ ++ NA ++ ⟨#[32,40,32]⟩ ++ PA ++ ⟨#[59,32]⟩ ++ GH:ByteArray).size+(⟨#[41,32,114,101,113,117,105,114,101,115,32]⟩:ByteArray).size > 9223372036854775807):=by
      simp only[size_app,size_lit,brk_size,List.size_toArray,List.length_cons,List.length_nil];omega
     have s8:¬(((R ++ ⟨#[32]⟩) ++ ⟨#[112,114,111,99,32]⟩ ++ NA ++ ⟨#[32,40,32]⟩ ++ PA ++ ⟨#[59,32]⟩ ++ GH ++ ⟨#[41,32,114,101,113,117,105,114,101,115,32]⟩:ByteArray).size+(TA:ByteArray).size > 9223372036854775807):=by
      simp only[size_app,size_lit,brk_size,List.size_toArray,List.length_cons,List.length_nil];omega
     have s9:¬(((R ++ ⟨#[32]⟩) ++ ⟨#[112,114,111,99,32]⟩ ++ NA ++ ⟨#[32,40,32]⟩ ++ PA ++ ⟨#[59,32]⟩ ++ GH ++ ⟨#[41,32,114,101,113,117,105,114,101,115,32]⟩ ++ TA:ByteArray).size+(⟨#[32,101,110,115,117,114,101,115,32]⟩:ByteArray).size > 9223372036854775807):=by
      simp only[size_app,size_lit,brk_size,List.size_toArray,List.length_cons,List.length_nil];omega
     have s10:¬(((R ++ ⟨#[32]⟩) ++ ⟨#[112,114,111,99,32]⟩ ++ NA ++ ⟨#[32,40,32]⟩ ++ PA ++ ⟨#[59,32]⟩ ++ GH ++ ⟨#[41,32,114,101,113,117,105,114,101,115,32]⟩ ++ TA ++ ⟨#[32,101,110,115,117,114,101,115,32]⟩:ByteArray).size+(TB:ByteArray).size > 9223372036854775807):=by
      simp only[size_app,size_lit,brk_size,List.size_toArray,List.length_cons,List.length_nil];omega
     have s11:¬(((R ++ ⟨#[32]⟩) ++ ⟨#[112,114,111,99,32]⟩ ++ NA ++ ⟨#[32,40,32]⟩ ++ PA ++ ⟨#[59,32]⟩ ++ GH ++ ⟨#[41,32,114,101,113,117,105,114,101,115,32]⟩ ++ TA ++ ⟨#[32,101,110,115,117,114,101,115,32]⟩ ++ TB:ByteArray).size+(⟨#[32]⟩:ByteArray).size > 9223372036854775807):=by
      simp only[size_app,size_lit,brk_size,List.size_toArray,List.length_cons,List.length_nil];omega
     have s12:¬(((R ++ ⟨#[32]⟩) ++ ⟨#[112,114,111,99,32]⟩ ++ NA ++ ⟨#[32,40,32]⟩ ++ PA ++ ⟨#[59,32]⟩ ++ GH ++ ⟨#[41,32,114,101,113,117,105,114,101,115,32]⟩ ++ TA ++ ⟨#[32,101,110,115,117,114,101,115,32]⟩ ++ TB ++ ⟨#[32]⟩:ByteArray).size+(TS:ByteArray).size > 9223372036854775807):=by
      simp only[size_app,size_lit,brk_size,List.size_toArray,List.length_cons,List.length_nil];omega
     clear hR zN zP zG zA zB zS
     have HNN:=Lib.hid hN
     clear hN
     go_wp2_with (first | (refine wpList_store_new (by kernel_rfl) 49 _ _ rfl _ rfl cs rfl (by rw[HL.out];kernel_rfl) (by rw[HL.out];rfl) HO.out ?_) | (refine wpList_load_w (by kernel_rfl) 49 _ rfl ⟨b,off+j*34,none⟩ rfl cs _ HC0.out Tryz.underlying49 rfl (by rw[HL.out];kernel_rfl) ?_))
     refine wp_region_quiet_below (by kernel_rfl) (by kernel_rfl) ?_
     repeat (first | (go_big_quiet_step (first | with_reducible exact r1 _ _ | with_reducible exact r2 _ _ | with_reducible exact r3 _ _ | with_reducible exact r4 _ _ | with_reducible exact r5 _ _)) | (refine wpQuiet_load_c 44 _ rfl ⟨wo.heap.size,3,none⟩ rfl ca _ P1.out rfl Tryz.underlying44 rfl (by rw[L1.out];kernel_rfl) _ (by simp only[Act.put,List.setIfInBounds_toArray,List.set_cons_succ,List.set_cons_zero];rfl) ?_) | (refine wpQuiet_load_c 44 _ rfl ⟨wo.heap.size,18,none⟩ rfl cb _ P2.out rfl Tryz.underlying44 rfl (by rw[L2.out];kernel_rfl) _ (by simp only[Act.put,List.setIfInBounds_toArray,List.set_cons_succ,List.set_cons_zero];rfl) ?_))
     refine wpQuiet_nil ?_
     intro w9 hw'
     obtain⟨⟨dq,osq⟩,hw''⟩:=hw'
     have hb9:Below (wo.alloc (.cells cs.toArray 49)).heap.size (wo.alloc (.cells cs.toArray 49)) w9:=by rw[hw''];exact below_regrown _ dq osq
     have HB9:=Lib.hid (HB.out.trans (hb9.mono HB.out.size))
     clear hb9
     clear hw'' r1 r2 r3 r4 r5 d0 d1 d2 d33 P1 P2 HC0 k0
     go_wp2_with fail
     go_roundw
     case rel=>exact⟨j+1,by omega,by go_num,congrArg Value.string (HNN.out.symm.trans HR1.out.symm),HB9⟩
     case measure=>simp[intOf];omega
    ·
     rw[if_neg h0]at hN
     have h0i:¬(0:Int)<(j:Int):=by omega
     have s1:¬((R:ByteArray).size+(⟨#[112,114,111,99,32]⟩:ByteArray).size > 9223372036854775807):=by
      simp only[size_app,size_lit,brk_size,List.size_toArray,List.length_cons,List.length_nil];omega
     have s2:¬((R ++ ⟨#[112,114,111,99,32]⟩:ByteArray).size+(NA:ByteArray).size > 9223372036854775807):=by
      simp only[size_app,size_lit,brk_size,List.size_toArray,List.length_cons,List.length_nil];omega
     have s3:¬((R ++ ⟨#[112,114,111,99,32]⟩ ++ NA:ByteArray).size+(⟨#[32,40,32]⟩:ByteArray).size > 9223372036854775807):=by
      simp only[size_app,size_lit,brk_size,List.size_toArray,List.length_cons,List.length_nil];omega
     have s4:¬((R ++ ⟨#[112,114,111,99,32]⟩ ++ NA ++ ⟨#[32,40,32]⟩:ByteArray).size+(PA:ByteArray).size > 9223372036854775807):=by
      simp only[size_app,size_lit,brk_size,List.size_toArray,List.length_cons,List.length_nil];omega
     have s5:¬((R ++ ⟨#[112,114,111,99,32]⟩ ++ NA ++ ⟨#[32,40,32]⟩ ++ PA:ByteArray).size+(⟨#[59,32]⟩:ByteArray).size > 9223372036854775807):=by
      simp only[size_app,size_lit,brk_size,List.size_toArray,List.length_cons,List.length_nil];omega
     have s6:¬((R ++ ⟨#[112,114,111,99,32]⟩ ++ NA ++ ⟨#[32,40,32]⟩ ++ PA ++ ⟨#[59,32]⟩:ByteArray).size+(GH:ByteArray).size > 9223372036854775807):=by
      simp only[size_app,size_lit,brk_size,List.size_toArray,List.length_cons,List.length_nil];omega
     have s7:¬((R ++ ⟨#[112,114,111,99,32]⟩ ++ NA ++ ⟨#[32,40,32]⟩ ++ PA ++ ⟨#[59,32]⟩ ++ GH:ByteArray).size+(⟨#[41,32,114,101,113,117,105,114,101,115,32]⟩:ByteArray).size > 9223372036854775807):=by
      simp only[size_app,size_lit,brk_size,List.size_toArray,List.length_cons,List.length_nil];omega
     have s8:¬((R ++ ⟨#[112,114,111,99,32]⟩ ++ NA ++ ⟨#[32,40,32]⟩ ++ PA ++ ⟨#[59,32]⟩ ++ GH ++ ⟨#[41,32,114,101,113,117,105,114,101,115,32]⟩:ByteArray).size+(TA:ByteArray).size > 9223372036854775807):=by
      simp only[size_app,size_lit,brk_size,List.size_toArray,List.length_cons,List.length_nil];omega
     have s9:¬((R ++ ⟨#[112,114,111,99,32]⟩ ++ NA ++ ⟨#[32,40,32]⟩ ++ PA ++ ⟨#[59,32]⟩ ++ GH ++ ⟨#[41,32,114,101,113,117,105,114,101,115,32]⟩ ++ TA:ByteArray).size+(⟨#[32,101,110,115,117,114,101,115,32]⟩:ByteArray).size > 9223372036854775807):=by
      simp only[size_app,size_lit,brk_size,List.size_toArray,List.length_cons,List.length_nil];omega
     have s10:¬((R ++ ⟨#[112,114,111,99,32]⟩ ++ NA ++ ⟨#[32,40,32]⟩ ++ PA ++ ⟨#[59,32]⟩ ++ GH ++ ⟨#[41,32,114,101,113,117,105,114,101,115,32]⟩ ++ TA ++ ⟨#[32,101,110,115,117,114,101,115,32]⟩:ByteArray).size+(TB:ByteArray).size > 9223372036854775807):=by
      simp only[size_app,size_lit,brk_size,List.size_toArray,List.length_cons,List.length_nil];omega
     have s11:¬((R ++ ⟨#[112,114,111,99,32]⟩ ++ NA ++ ⟨#[32,40,32]⟩ ++ PA ++ ⟨#[59,32]⟩ ++ GH ++ ⟨#[41,32,114,101,113,117,105,114,101,115,32]⟩ ++ TA ++ ⟨#[32,101,110,115,117,114,101,115,32]⟩ ++ TB:ByteArray).size+(⟨#[32]⟩:ByteArray).size > 9223372036854775807):=by
      simp only[size_app,size_lit,brk_size,List.size_toArray,List.length_cons,List.length_nil];omega
     have s12:¬((R ++ ⟨#[112,114,111,99,32]⟩ ++ NA ++ ⟨#[32,40,32]⟩ ++ PA ++ ⟨#[59,32]⟩ ++ GH ++ ⟨#[41,32,114,101,113,117,105,114,101,115,32]⟩ ++ TA ++ ⟨#[32,101,110,115,117,114,101,115,32]⟩ ++ TB ++ ⟨#[32]⟩:ByteArray).size+(TS:ByteArray).size > 9223372036854775807):=by
      simp only[size_app,size_lit,brk_size,List.size_toArray,List.length_cons,List.length_nil];omega
     clear hR zN zP zG zA zB zS
     have HNN:=Lib.hid hN
     clear hN
     go_wp2_with (first | (refine wpList_store_new (by kernel_rfl) 49 _ _ rfl _ rfl cs rfl (by rw[HL.out];kernel_rfl) (by rw[HL.out];rfl) HO.out ?_) | (refine wpList_load_w (by kernel_rfl) 49 _ rfl ⟨b,off+j*34,none⟩ rfl cs _ HC0.out Tryz.underlying49 rfl (by rw[HL.out];kernel_rfl) ?_))
     refine wp_region_quiet_below (by kernel_rfl) (by kernel_rfl) ?_
     repeat (first | (go_big_quiet_step (first | with_reducible exact r1 _ _ | with_reducible exact r2 _ _ | with_reducible exact r3 _ _ | with_reducible exact r4 _ _ | with_reducible exact r5 _ _)) | (refine wpQuiet_load_c 44 _ rfl ⟨wo.heap.size,3,none⟩ rfl ca _ P1.out rfl Tryz.underlying44 rfl (by rw[L1.out];kernel_rfl) _ (by simp only[Act.put,List.setIfInBounds_toArray,List.set_cons_succ,List.set_cons_zero];rfl) ?_) | (refine wpQuiet_load_c 44 _ rfl ⟨wo.heap.size,18,none⟩ rfl cb _ P2.out rfl Tryz.underlying44 rfl (by rw[L2.out];kernel_rfl) _ (by simp only[Act.put,List.setIfInBounds_toArray,List.set_cons_succ,List.set_cons_zero];rfl) ?_))
     refine wpQuiet_nil ?_
     intro w9 hw'
     obtain⟨⟨dq,osq⟩,hw''⟩:=hw'
     have hb9:Below (wo.alloc (.cells cs.toArray 49)).heap.size (wo.alloc (.cells cs.toArray 49)) w9:=by rw[hw''];exact below_regrown _ dq osq
     have HB9:=Lib.hid (HB.out.trans (hb9.mono HB.out.size))
     clear hb9
     clear hw'' r1 r2 r3 r4 r5 d0 d1 d2 d33 P1 P2 HC0 k0
     go_wp2_with fail
     go_roundw
     case rel=>exact⟨j+1,by omega,by go_num,congrArg Value.string (HNN.out.symm.trans HR1.out.symm),HB9⟩
     case measure=>simp[intOf];omega
   ·obtain rfl:j=m:=by omega
    have hji:¬(j:Int)<(j:Int):=by omega
    have HB:=HWO
    have HE:Hid (shwS nmB n qs=if 65536<(shG n qs j).size then(⟨#[]⟩,2) else(shG n qs j,0)):=Lib.hid (by unfold shwS;rw[if_neg (by simp[HZ.out]),HM.out])
    clear HWO hb
    by_cases hbig:65536<(shG n qs j).size
    ·rw[if_pos hbig]at HE
     have hbi:(65536:Int)<((shG n qs j).size:Int):=by omega
     clear hbig
     go_wp2_with fail
     go_ret2
     exact⟨congrArg (fun x:ByteArray×Int=>Ending.returned (.tuple #[.string x.1,.int .i64 x.2])) HE.out.symm,HB.out⟩
    ·rw[if_neg hbig]at HE
     have hbi:¬(65536:Int)<((shG n qs j).size:Int):=by omega
     clear hbig
     go_wp2_with fail
     go_ret2
     exact⟨congrArg (fun x:ByteArray×Int=>Ending.returned (.tuple #[.string x.1,.int .i64 x.2])) HE.out.symm,HB.out⟩
 ·have HE:Hid (shwS nmB n qs=(⟨#[]⟩,z)):=Lib.hid (by unfold shwS;rw[if_pos (by rw[HZ.out];exact h0),HZ.out])
  have g0:(z == 0)=false:=by rw[Bool.eq_false_iff];simpa using h0
  have g1:(z != 0)=true:=by simp[h0]
  go_enter Tryz.func10,Tryz.ntmps10
  go_wp2_with fail
  refine FC.out.mono ?_
  rintro r w1 ⟨rfl,hb⟩
  have HB1:=Lib.hid (HA0.out.trans (hb.mono HA0.out.size))
  clear hb FC c0 h0
  go_wp2_with fail
  go_ret2
  exact⟨congrArg (fun x:ByteArray×Int=>Ending.returned (.tuple #[.string x.1,.int .i64 x.2])) HE.out.symm,HB1.out⟩
end
section
open Go.RowKit
theorem is_nil {B:Nat}{x at':Int}{v:Value}{w:World}(h:ErrIs B x at' v w)(hc:0≤at'→x≠0):(v= .nilIface∧x=0)∨(x≠0∧∃t y,v= .iface t y):=by
 by_cases h0:0≤at'
 ·obtain⟨g,e,_⟩:=h.2 h0
  exact .inr ⟨hc h0,_,_,e⟩
 ·have e:=h.1 (by omega)
  unfold codeV at e
  by_cases hx:x=0
  ·rw[if_pos hx]at e
   exact .inl ⟨e,hx⟩
  ·rw[if_neg hx]at e
   exact .inr ⟨hx,_,_,e⟩
theorem namesStays_any (hup:UpSaid16)(n:Nat)(qs:List QT)(a:Option Addr)(m cap:Nat)(w:World)(hm:qs.length=m)(hs:Pak.Sits (procSh n) (Pak.Lo w.heap.size) w a qs)(hL:Laid w)(hL0:Laid0 w):
 Calls Tryz.prog 4 #[.agg #[.slice a m cap]] w fun e w'=>e= .returned (.bool true)∧Below w.heap.size w w':=by
 subst hm
 have X0:=Lib.hid (Bx.start w [.slice a qs.length cap] 24)
 have HLW:Hid (∀W,Bx w [.slice a qs.length cap] 24 W→Below w.heap.size w W):=Lib.hid fun W hW=>hW.low (Below.refl _ _)
 have FU:=Lib.hid (hup _ (hL.up (HLW.out _ X0.out)) (hL0.below (HLW.out _ X0.out) hL0.pos))
 have FS:=Lib.hid (fun W (hW:Below w.heap.size w W)=>small16_any n qs a qs.length cap W rfl (hs.below hW hW.size))
 have FC:=Lib.hid (fun W (hW:Below w.heap.size w W) (h50:qs.length≤50) (hq:∀q∈qs,OkQ n 600 q)=>ncheck_any nmLaw n qs a cap W (hs.below hW hW.size) h50 (fun q hq'=>⟨(hq q hq').1,(hq q hq').2.1⟩) (hL.up hW))
 have FD:=Lib.hid (fun W (hW:Below w.heap.size w W) (h50:qs.length≤50) (hq:∀q∈qs,OkQ n 600 q)=>rshow_any n qs a qs.length cap W rfl (hs.below hW hW.size) h50 hq)
 clear hup hs hL hL0
 go_enter Tryz.func4,Tryz.ntmps4
 go_wp2_with fail
 refine FU.out.mono ?_
 rintro r w1 ⟨rfl,hb⟩
 have X1:=Lib.hid (X0.out.step hb)
 have B1:=Lib.hid (HLW.out _ X1.out)
 have c0:=X1.out.at (o:=0) rfl
 clear hb FU X0
 go_wp2_with fail
 refine(FS.out w1 B1.out).mono ?_
 rintro r w2 ⟨z,rfl,hz,hb⟩
 have X2:=Lib.hid (X1.out.step hb)
 have B2:=Lib.hid (HLW.out _ X2.out)
 have HZ:=Lib.hid hz
 clear hb hz c0 X1 B1 FS
 cases z with
 | false=>
   go_wp2_with fail
   go_ret
   exact⟨rfl,B2.out⟩
 | true=>
 have HQ:=Lib.hid (HZ.out rfl)
 have c0:=X2.out.at (o:=0) rfl
 go_wp2_with fail
 refine(FD.out w2 B2.out HQ.out.1 HQ.out.2).mono ?_
 rintro r w3 ⟨rfl,hb⟩
 have X3:=Lib.hid (X2.out.step hb)
 have B3:=Lib.hid (HLW.out _ X3.out)
 clear hb c0 X2 B2
 have c0:=X3.out.at (o:=0) rfl
 go_wp2_with fail
 refine(FC.out w3 B3.out HQ.out.1 HQ.out.2).mono ?_
 rintro r w4 ⟨er,rfl,he,hb⟩
 have X4:=Lib.hid (X3.out.step hb)
 have B4:=Lib.hid (HLW.out _ X4.out)
 have HE:=Lib.hid (is_nil he (chkN_code n qs).2)
 clear hb he c0 X3 B3
 have c0:=X4.out.at (o:=0) rfl
 go_wp2_with fail
 refine(FC.out w4 B4.out HQ.out.1 HQ.out.2).mono ?_
 rintro r w5 ⟨er2,rfl,he,hb⟩
 have X5:=Lib.hid (X4.out.step hb)
 have B5:=Lib.hid (HLW.out _ X5.out)
 have HE2:=Lib.hid (is_nil he (chkN_code n qs).2)
 clear hb he c0 X4 B4 FC
 have c0:=X5.out.at (o:=0) rfl
 go_wp2_with fail
 refine(FD.out w5 B5.out HQ.out.1 HQ.out.2).mono ?_
 rintro r w6 ⟨rfl,hb⟩
 have B6:=Lib.hid (HLW.out _ (X5.out.step hb))
 clear hb c0 X5 B5 FD
 have BD:Hid (∀k,Below w.heap.size w (w6.drewN k)):=Lib.hid fun k=>B6.out.trans ((show Below w6.heap.size w6 (w6.drewN k) from⟨rfl,rfl,rfl,Nat.le_refl _,fun _ _=>rfl⟩).mono B6.out.size)
 generalize shwS nmB n qs=X at*
 obtain⟨x1,x2⟩:=X
 have e1:(x1.toList == x1.toList)=true:=beq_self_eq_true _
 have e2:(x2 == x2)=true:=beq_self_eq_true _
 rcases HE.out with ⟨rfl,k1⟩ | ⟨k1,t1,y1,rfl⟩
 ·obtain⟨rfl,_⟩:er2= .nilIface∧True:=by
   rcases HE2.out with ⟨h,_⟩ | ⟨h,_⟩
   ·exact⟨h,trivial⟩
   ·exact absurd k1 h
  clear HE HE2
  go_wp2_with (go_quiet (fail))
  all_goals
   go_ret
   exact⟨rfl,BD.out _⟩
 ·obtain⟨t2,y2,rfl⟩:∃t2 y2,er2= .iface t2 y2:=by
   rcases HE2.out with ⟨_,h⟩ | ⟨_,h⟩
   ·exact absurd h k1
   ·exact h
  clear HE HE2
  go_wp2_with (go_quiet (fail))
  all_goals
   go_ret
   exact⟨rfl,BD.out _⟩
end
section
open Go.ChangeShapes Go.WideShapes Go.ChangeAt Go.RowKit
theorem namesStays_lifted (hup:UpSaid16)(os:Os)(started:os.Started)(H:Type)(enc:TypeId×Value→H):
 ReturnsInHanded {} Tryz.checked os 4 .any (fun w args=>(Rows.namesStaysSpec.pre enc Tryz.prog Tryz.f4 [] false w args∧laidMetH Tryz.prog laidL w)∧sizedMet enc Tryz.prog Tryz.f4 (OpenSpec.ofChange Rows.namesStaysSpec) false w args)
  (Rows.namesStaysSpec.post enc Tryz.prog Tryz.f4 false true false false):=by
 refine returnsInHanded_of_change_and (C:=Tryz.checked) (X:=fun w _=>laidMetH Tryz.prog laidL w) (fun _ _ _ hh h=>h.of_heap hh) Tryz.own started (by kernel_rfl) Tryz.func4
  (ChangeSpec.witness_at (enc:=enc) (C:=Tryz.checked) (os:=os) (X:=fun w _=>laidMetH Tryz.prog laidL w) false (laidWorld os) #[.agg #[.slice none 0 0]] 8 rfl (by kernel_rfl) (by kernel_rfl) (by kernel_rfl) (by kernel_rfl) (by kernel_rfl) (laidWorld_met os _)) ?_
 intro W base args ds gs before hval0 hW _ _ hL _
 have hval:∀(j:Nat) t v,Tryz.f4.params[j]? =some t→args[j]? =some v→Value.okWide Tryz.prog W .any base t v:=hval0
 have hW':=hW
 obtain⟨p,q,hA0,hV,rfl,hfz,hnd⟩:=hW
 have hA:DataW.TrodAll enc Tryz.prog W 0 (fun _=>true) true Tryz.f4.params.toList args.toList ds p:=hA0
 rw[Tryz.params4]at hA hval
 obtain⟨v0,vs0,d0,ds0,p0,q0,hargs,rfl,rfl,h0,r0⟩:=trodAll_cons hA
 obtain⟨rfl,rfl,rfl⟩:=trodAll_nil r0
 obtain rfl:args= #[v0]:=by cases args;simp_all
 obtain⟨rfl,rfl⟩:=trodVars_none hV
 have k0:=h0
 have lt0:∀x∈p0,x.block<W.heap.size:=by obtain⟨m,hm⟩:=k0;exact DataW.trod_lt m _ _ _ hm
 obtain⟨n,a,m,cap,qs,rfl,hqm,hqs⟩:=open_prog (hval 0 24 v0 rfl rfl) h0
 have hg:=handle_of_laid hL
 clear hA0 hval0
 refine(namesStays_any hup n qs a m cap W hqm hqs hg.1 hg.2).mono fun e W' ⟨he,bel⟩=> ?_
 subst he
 exact⟨_,rfl,_,_,_,[],_,[],hW',trodAll_mk1 (shut_bool Tryz.underlying4 _),(trodAll_cons_mk (Below.trod Tryz.laidOut (by kernel_rfl) (of_decide_eq_true (by kernel_rfl)) k0 bel lt0) trodAll_mk0),rfl,bel.frame _,fun h=>by cases h⟩
theorem namesStays_over (hup:UpSaid16):Rows.NamesStaysSaid:=
 OpenClaim.holds_of_wide 4 Tryz.f4 rfl rfl rfl rfl rfl rfl rfl ⟨rfl,rfl,rfl,rfl,rfl⟩ rfl rfl rfl rfl rfl (by kernel_rfl) Tryz.func4 (by kernel_rfl)
  (of_decide_eq_true (by kernel_rfl)) (by unfold Func.isWrapper;first | (rw[if_pos (by decide+kernel)];kernel_rfl) | (rw[if_neg (by decide+kernel)];exact⟨rfl,rfl⟩))
  (fun os started H enc _=>namesStays_lifted hup os started H enc)
end
end Go.Proofs.YtfcaclmcnlflfaaGreatDoor
