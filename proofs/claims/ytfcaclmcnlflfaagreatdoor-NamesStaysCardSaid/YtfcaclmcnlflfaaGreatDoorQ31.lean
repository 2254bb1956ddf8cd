/- Parts of a proof. -/
import Derived.Test.YtfcaclmcnlflfaaGreatDoorQ29
set_option linter.unusedVariables false
set_option linter.unusedSimpArgs false
set_option maxHeartbeats 60000000
set_option maxRecDepth 100000
namespace Go.Proofs.YtfcaclmcnlflfaaGreatDoor
section
open Go.ChangeShapes Go.WideShapes Go.RowKit Go.Deep
theorem stmtSh_up:∀(n:Nat) {S:Nat→Prop} {w:World} {cs:List Value} {e:ST},(stmtSh n).rel S w cs e→(stmtSh (n+1)).rel S w cs e
 | 0,_,_,_,_,h=>h.elim
 | n+1,S,w,cs,e,⟨ce,cv,cc,ca,v1,v2,v3,v4,v5,h1,h2,⟨h3,h4,h5,h6⟩,⟨h7,h8,h9⟩,h10,h11⟩=>⟨ce,cv,cc,ca,v1,v2,v3,v4,v5,h1,h2,⟨exprSh_up n h3,exprSh_up n h4,condSh_up n h5,assnSh_up n h6⟩,⟨slot_imp (by rw[exprSh_k,exprSh_k]) (fun cs x h=>exprSh_up n h) h7,slot_imp (by rw[exprSh_k,exprSh_k]) (fun cs x h=>exprSh_up n h) h8,h9⟩,slot_imp (by rw[stmtSh_k,stmtSh_k]) (fun cs x h=>stmtSh_up n h) h10,slot_imp (by rw[stmtSh_k,stmtSh_k]) (fun cs x h=>stmtSh_up n h) h11⟩
theorem procSh_up (n:Nat){S:Nat→Prop}{w:World}{cs:List Value}{e:QT}:(procSh n).rel S w cs e→(procSh (n+1)).rel S w cs e
 | ⟨v1,v2,ca,cb,v3,h1,h2,h3,h4,h5,h6,h7⟩=>⟨v1,v2,ca,cb,v3,h1,h2,h3,h4,assnSh_up n h5,assnSh_up n h6,slot_imp (by rw[stmtSh_k,stmtSh_k]) (fun cs x h=>stmtSh_up n h) h7⟩
theorem procSh_to {n m:Nat}(hnm:n≤m){S:Nat→Prop}{w:World}{cs:List Value}{e:QT}(h:(procSh n).rel S w cs e):(procSh m).rel S w cs e:=by
 induction hnm with
 | refl=>exact h
 | step _ ih=>exact procSh_up _ ih
theorem seg_at (l:List Value)(k m:Nat):l.drop k=(l.drop k).take m ++ l.drop (k+m):=by
 have h:=(List.take_append_drop m (l.drop k)).symm
 rwa [List.drop_drop]at h
theorem take_one {l:List Value}{k:Nat}(h:k<l.length):(l.drop k).take 1=[l[k]]:=by
 rw[List.drop_eq_getElem_cons h]
 rfl
section
variable {H:Type} {enc:TypeId×Value→H} {w:World} {base:Nat} {spare:Nat→Bool} {held:Bool}
theorem opnStr (f:Nat):OpnAt enc w base spare held f strSh 9:=by
 intro cs x h
 obtain⟨s,e,_,hs⟩:=DataW.trod_string Tryz.underlying9 h
 exact⟨s,e,hs⟩
theorem slotStr {n:Nat}{c:Value}{x:DataW H×List MemPlace}(h:DataW.trod enc Tryz.prog w base spare held n 38 [c]=some x):∃ks,Pak.Slot strSh (Pak.Lo w.heap.size) w c ks:=
 open_row_at (sh:=strSh) Tryz.underlying38 (by kernel_rfl) (by decide) (fun m _=>opnStr m) h
theorem opnS:∀f,OpnAt enc w base spare held f (stmtSh f) 47:=fun f=>by
 induction f using Nat.strongRecOn with
 | ind f IH=>
   intro cs x h
   obtain⟨ys,n,rfl,_,hl,hyl,hf⟩:=DataW.trod_struct Tryz.underlying47 h
   have hk:Tryz.prog.cellsOf 47=35:=by kernel_rfl
   rw[hk]at hl
   have hy:ys.length=13:=hyl
   have a0:DataW.trod enc Tryz.prog w base spare held n 3 ((cs.drop 0).take 1)=ys[0]? :=hf 0 _ rfl
   have a1:DataW.trod enc Tryz.prog w base spare held n 9 ((cs.drop 1).take 1)=ys[1]? :=hf 1 _ rfl
   have a2:DataW.trod enc Tryz.prog w base spare held n 9 ((cs.drop 2).take 1)=ys[2]? :=hf 2 _ rfl
   have a3:DataW.trod enc Tryz.prog w base spare held n 9 ((cs.drop 3).take 1)=ys[3]? :=hf 3 _ rfl
   have a4:DataW.trod enc Tryz.prog w base spare held n 37 ((cs.drop 4).take 4)=ys[4]? :=hf 4 _ rfl
   have a5:DataW.trod enc Tryz.prog w base spare held n 37 ((cs.drop 8).take 4)=ys[5]? :=hf 5 _ rfl
   have a6:DataW.trod enc Tryz.prog w base spare held n 41 ((cs.drop 12).take 3)=ys[6]? :=hf 6 _ rfl
   have a7:DataW.trod enc Tryz.prog w base spare held n 44 ((cs.drop 15).take 15)=ys[7]? :=hf 7 _ rfl
   have a8:DataW.trod enc Tryz.prog w base spare held n 35 ((cs.drop 30).take 1)=ys[8]? :=hf 8 _ rfl
   have a9:DataW.trod enc Tryz.prog w base spare held n 35 ((cs.drop 31).take 1)=ys[9]? :=hf 9 _ rfl
   have a10:DataW.trod enc Tryz.prog w base spare held n 38 ((cs.drop 32).take 1)=ys[10]? :=hf 10 _ rfl
   have a11:DataW.trod enc Tryz.prog w base spare held n 45 ((cs.drop 33).take 1)=ys[11]? :=hf 11 _ rfl
   have a12:DataW.trod enc Tryz.prog w base spare held n 45 ((cs.drop 34).take 1)=ys[12]? :=hf 12 _ rfl
   rw[List.getElem?_eq_getElem (by omega)]at a0 a1 a2 a3 a4 a5 a6 a7 a8 a9 a10 a11 a12
   have E12:cs.drop 34=(cs.drop 34).take 1:=(List.take_of_length_le (by rw[List.length_drop];omega)).symm
   have E11:cs.drop 33=(cs.drop 33).take 1 ++ ((cs.drop 34).take 1):=(seg_at cs 33 1).trans (congrArg ((cs.drop 33).take 1 ++ ·) E12)
   have E10:cs.drop 32=(cs.drop 32).take 1 ++ ((cs.drop 33).take 1 ++ ((cs.drop 34).take 1)):=(seg_at cs 32 1).trans (congrArg ((cs.drop 32).take 1 ++ ·) E11)
   have E9:cs.drop 31=(cs.drop 31).take 1 ++ ((cs.drop 32).take 1 ++ ((cs.drop 33).take 1 ++ ((cs.drop 34).take 1))):=(seg_at cs 31 1).trans (congrArg ((cs.drop 31).take 1 ++ ·) E10)
   have E8:cs.drop 30=(cs.drop 30).take 1 ++ ((cs.drop 31).take 1 ++ ((cs.drop 32).take 1 ++ ((cs.drop 33).take 1 ++ ((cs.drop 34).take 1)))):=(seg_at cs 30 1).trans (congrArg ((cs.drop 30).take 1 ++ ·) E9)
   have E7:cs.drop 15=(cs.drop 15).take 15 ++ ((cs.drop 30).take 1 ++ ((cs.drop 31).take 1 ++ ((cs.drop 32).take 1 ++ ((cs.drop 33).take 1 ++ ((cs.drop 34).take 1))))):=(seg_at cs 15 15).trans (congrArg ((cs.drop 15).take 15 ++ ·) E8)
   have E6:cs.drop 12=(cs.drop 12).take 3 ++ ((cs.drop 15).take 15 ++ ((cs.drop 30).take 1 ++ ((cs.drop 31).take 1 ++ ((cs.drop 32).take 1 ++ ((cs.drop 33).take 1 ++ ((cs.drop 34).take 1)))))):=(seg_at cs 12 3).trans (congrArg ((cs.drop 12).take 3 ++ ·) E7)
   have E5:cs.drop 8=(cs.drop 8).take 4 ++ ((cs.drop 12).take 3 ++ ((cs.drop 15).take 15 ++ ((cs.drop 30).take 1 ++ ((cs.drop 31).take 1 ++ ((cs.drop 32).take 1 ++ ((cs.drop 33).take 1 ++ ((cs.drop 34).take 1))))))):=(seg_at cs 8 4).trans (congrArg ((cs.drop 8).take 4 ++ ·) E6)
   have E4:cs.drop 4=(cs.drop 4).take 4 ++ ((cs.drop 8).take 4 ++ ((cs.drop 12).take 3 ++ ((cs.drop 15).take 15 ++ ((cs.drop 30).take 1 ++ ((cs.drop 31).take 1 ++ ((cs.drop 32).take 1 ++ ((cs.drop 33).take 1 ++ ((cs.drop 34).take 1)))))))):=(seg_at cs 4 4).trans (congrArg ((cs.drop 4).take 4 ++ ·) E5)
   have E3:cs.drop 3=(cs.drop 3).take 1 ++ ((cs.drop 4).take 4 ++ ((cs.drop 8).take 4 ++ ((cs.drop 12).take 3 ++ ((cs.drop 15).take 15 ++ ((cs.drop 30).take 1 ++ ((cs.drop 31).take 1 ++ ((cs.drop 32).take 1 ++ ((cs.drop 33).take 1 ++ ((cs.drop 34).take 1))))))))):=(seg_at cs 3 1).trans (congrArg ((cs.drop 3).take 1 ++ ·) E4)
   have E2:cs.drop 2=(cs.drop 2).take 1 ++ ((cs.drop 3).take 1 ++ ((cs.drop 4).take 4 ++ ((cs.drop 8).take 4 ++ ((cs.drop 12).take 3 ++ ((cs.drop 15).take 15 ++ ((cs.drop 30).take 1 ++ ((cs.drop 31).take 1 ++ ((cs.drop 32).take 1 ++ ((cs.drop 33).take 1 ++ ((cs.drop 34).take 1)))))))))):=(seg_at cs 2 1).trans (congrArg ((cs.drop 2).take 1 ++ ·) E3)
   have E1:cs.drop 1=(cs.drop 1).take 1 ++ ((cs.drop 2).take 1 ++ ((cs.drop 3).take 1 ++ ((cs.drop 4).take 4 ++ ((cs.drop 8).take 4 ++ ((cs.drop 12).take 3 ++ ((cs.drop 15).take 15 ++ ((cs.drop 30).take 1 ++ ((cs.drop 31).take 1 ++ ((cs.drop 32).take 1 ++ ((cs.drop 33).take 1 ++ ((cs.drop 34).take 1))))))))))):=(seg_at cs 1 1).trans (congrArg ((cs.drop 1).take 1 ++ ·) E2)
   have E0:cs.drop 0=(cs.drop 0).take 1 ++ ((cs.drop 1).take 1 ++ ((cs.drop 2).take 1 ++ ((cs.drop 3).take 1 ++ ((cs.drop 4).take 4 ++ ((cs.drop 8).take 4 ++ ((cs.drop 12).take 3 ++ ((cs.drop 15).take 15 ++ ((cs.drop 30).take 1 ++ ((cs.drop 31).take 1 ++ ((cs.drop 32).take 1 ++ ((cs.drop 33).take 1 ++ ((cs.drop 34).take 1)))))))))))):=(seg_at cs 0 1).trans (congrArg ((cs.drop 0).take 1 ++ ·) E1)
   obtain⟨z0,e0,_,w0⟩:=DataW.trod_int Tryz.underlying3 a0
   obtain⟨s1,e1,_,w1⟩:=DataW.trod_string Tryz.underlying9 a1
   obtain⟨s2,e2,_,w2⟩:=DataW.trod_string Tryz.underlying9 a2
   obtain⟨s3,e3,_,w3⟩:=DataW.trod_string Tryz.underlying9 a3
   obtain⟨ye,he⟩:=opnE n a4
   obtain⟨yv,hv⟩:=opnE n a5
   obtain⟨yc,hc⟩:=opnC n a6
   obtain⟨ya,ha⟩:=opnA n a7
   rw[take_one (by omega)]at a8 a9 a10 a11 a12
   obtain⟨k8,h8⟩:=slotE a8
   obtain⟨k9,h9⟩:=slotE a9
   obtain⟨k10,h10⟩:=slotStr a10
   have SS:=fun {c:Value} {x:DataW H×List MemPlace} (h:DataW.trod enc Tryz.prog w base spare held n 45 [c]=some x)=>open_row_at (sh:=stmtSh n) Tryz.underlying45 (by rw[stmtSh_k];kernel_rfl) (by rw[stmtSh_k];decide) (fun m hm=>by
    intro cs' x' h'
    obtain⟨y,hy'⟩:=IH m (by omega) h'
    rw[←hm]
    exact⟨y,stmtSh_up m hy'⟩) h
   obtain⟨k11,h11⟩:=SS a11
   obtain⟨k12,h12⟩:=SS a12
   refine⟨.mk ⟨z0,s1,s2,s3,ye,yv,yc,ya,k8,k9,k10⟩ k11 k12,_,_,_,_,_,_,_,_,_, ?_,⟨i64_wf w0,w1,w2,w3⟩,⟨he,hv,hc,ha⟩,⟨h8,h9,h10⟩,h11,h12⟩
   have E:=E0
   rw[e0,e1,e2,e3,take_one (k:=30) (by omega),take_one (k:=31) (by omega),take_one (k:=32) (by omega),take_one (k:=33) (by omega),take_one (k:=34) (by omega)]at E
   exact E
theorem slotS {n:Nat}{c:Value}{x:DataW H×List MemPlace}(h:DataW.trod enc Tryz.prog w base spare held n 45 [c]=some x):∃ks,Pak.Slot (stmtSh n) (Pak.Lo w.heap.size) w c ks:=
 open_row_at (sh:=stmtSh n) Tryz.underlying45 (by rw[stmtSh_k];kernel_rfl) (by rw[stmtSh_k];decide) (fun m hm=>by
  intro cs' x' h'
  obtain⟨y,hy'⟩:=opnS m h'
  rw[←hm]
  exact⟨y,stmtSh_up m hy'⟩) h
theorem opnQ (f:Nat):OpnAt enc w base spare held f (procSh f) 49:=by
 intro cs x h
 obtain⟨ys,n,rfl,_,hl,hyl,hf⟩:=DataW.trod_struct Tryz.underlying49 h
 have hk:Tryz.prog.cellsOf 49=34:=by kernel_rfl
 rw[hk]at hl
 have hy:ys.length=6:=hyl
 have a0:DataW.trod enc Tryz.prog w base spare held n 9 ((cs.drop 0).take 1)=ys[0]? :=hf 0 _ rfl
 have a1:DataW.trod enc Tryz.prog w base spare held n 38 ((cs.drop 1).take 1)=ys[1]? :=hf 1 _ rfl
 have a2:DataW.trod enc Tryz.prog w base spare held n 38 ((cs.drop 2).take 1)=ys[2]? :=hf 2 _ rfl
 have a3:DataW.trod enc Tryz.prog w base spare held n 44 ((cs.drop 3).take 15)=ys[3]? :=hf 3 _ rfl
 have a4:DataW.trod enc Tryz.prog w base spare held n 44 ((cs.drop 18).take 15)=ys[4]? :=hf 4 _ rfl
 have a5:DataW.trod enc Tryz.prog w base spare held n 45 ((cs.drop 33).take 1)=ys[5]? :=hf 5 _ rfl
 rw[List.getElem?_eq_getElem (by omega)]at a0 a1 a2 a3 a4 a5
 have E5:cs.drop 33=(cs.drop 33).take 1:=(List.take_of_length_le (by rw[List.length_drop];omega)).symm
 have E4:cs.drop 18=(cs.drop 18).take 15 ++ ((cs.drop 33).take 1):=(seg_at cs 18 15).trans (congrArg ((cs.drop 18).take 15 ++ ·) E5)
 have E3:cs.drop 3=(cs.drop 3).take 15 ++ ((cs.drop 18).take 15 ++ ((cs.drop 33).take 1)):=(seg_at cs 3 15).trans (congrArg ((cs.drop 3).take 15 ++ ·) E4)
 have E2:cs.drop 2=(cs.drop 2).take 1 ++ ((cs.drop 3).take 15 ++ ((cs.drop 18).take 15 ++ ((cs.drop 33).take 1))):=(seg_at cs 2 1).trans (congrArg ((cs.drop 2).take 1 ++ ·) E3)
 have E1:cs.drop 1=(cs.drop 1).take 1 ++ ((cs.drop 2).take 1 ++ ((cs.drop 3).take 15 ++ ((cs.drop 18).take 15 ++ ((cs.drop 33).take 1)))):=(seg_at cs 1 1).trans (congrArg ((cs.drop 1).take 1 ++ ·) E2)
 have E0:cs.drop 0=(cs.drop 0).take 1 ++ ((cs.drop 1).take 1 ++ ((cs.drop 2).take 1 ++ ((cs.drop 3).take 15 ++ ((cs.drop 18).take 15 ++ ((cs.drop 33).take 1))))):=(seg_at cs 0 1).trans (congrArg ((cs.drop 0).take 1 ++ ·) E1)
 obtain⟨s0,e0,_,w0⟩:=DataW.trod_string Tryz.underlying9 a0
 rw[take_one (by omega)]at a1 a2 a5
 obtain⟨k1,h1⟩:=slotStr a1
 obtain⟨k2,h2⟩:=slotStr a2
 obtain⟨y3,h3⟩:=opnA n a3
 obtain⟨y4,h4⟩:=opnA n a4
 obtain⟨k5,h5⟩:=slotS a5
 refine⟨⟨s0,k1,k2,y3,y4,k5⟩,procSh_up n ⟨_,_,_,_,_, ?_,w0,h1,h2,h3,h4,h5⟩⟩
 have E:=E0
 rw[e0,take_one (k:=1) (by omega),take_one (k:=2) (by omega),take_one (k:=33) (by omega)]at E
 exact E
theorem open_prog {r:Reach}{b0:Nat}{v:Value}{d:DataW H}{p:List MemPlace}(hv:Value.okWide Tryz.prog w r b0 24 v)(h:DataW.Trod enc Tryz.prog w base spare held 24 v d p):
 ∃n a m cap qs,v= .agg #[.slice a m cap]∧qs.length=m∧Pak.Sits (procSh n) (Pak.Lo w.heap.size) w a qs:=by
 obtain⟨cs,rfl,hsz⟩:=okWide_struct Tryz.underlying24 hv
 obtain⟨fuel,hf⟩:=h
 obtain⟨y0,n,_,hl,h0⟩:=trod_struct1 Tryz.underlying24 (by simpa [Value.cells]using hf)
 have hl1:cs.toList.length=1:=hl.trans (by kernel_rfl)
 have h1:(cs.toList.drop 0).take 1=[cs.toList[0]]:=take_one (by omega)
 have h2:DataW.trod enc Tryz.prog w base spare held n 22 [cs.toList[0]]=some y0:=by rw[←h1];exact h0
 obtain⟨qs,a,cap,e,hs⟩:=open_row_at (sh:=procSh n) Tryz.underlying22 (by rw[procSh_k];kernel_rfl) (by rw[procSh_k];decide) (fun m hm=>by
  intro cs' x' h'
  obtain⟨y,hy'⟩:=opnQ m h'
  exact⟨y,procSh_to (by omega) hy'⟩) h2
 refine⟨n,a,_,cap,qs, ?_,rfl,hs⟩
 have e2:cs.toList=[.slice a qs.length cap]:=by
  rw[←e]
  exact List.ext_getElem (by simpa using hl1) (fun i h1 h2=>by
   have:i=0:=by simp at h2;omega
   subst this;rfl)
 cases cs
 simp only[]at e2
 rw[e2]
end
end
end Go.Proofs.YtfcaclmcnlflfaaGreatDoor
