/- Parts of a proof. -/
import Derived.Test.YtcinokljkieijaaGreatDoorQ13
set_option linter.unusedVariables false
set_option linter.unusedSimpArgs false
set_option maxHeartbeats 60000000
set_option maxRecDepth 100000
namespace Go.Proofs.YtcinokljkieijaaGreatDoor
section
open Go.RowKit
def zSt:List Value:=[.int .i64 0,.string ⟨#[]⟩,.string ⟨#[]⟩,.string ⟨#[]⟩,.int .i64 0,.int .i64 0,.string ⟨#[]⟩,.slice none 0 0,.int .i64 0,.int .i64 0,.string ⟨#[]⟩,.slice none 0 0,.int .i64 0,.slice none 0 0,.slice none 0 0,.int .i64 0,.int .i64 0,.slice none 0 0,.slice none 0 0,.int .i64 0,.int .i64 0,.string ⟨#[]⟩,.slice none 0 0,.int .i64 0,.int .i64 0,.string ⟨#[]⟩,.slice none 0 0,.string ⟨#[]⟩,.int .i64 0,.slice none 0 0,.slice none 0 0,.slice none 0 0,.slice none 0 0,.slice none 0 0,.slice none 0 0]
def zQt:List Value:=[.string ⟨#[]⟩,.slice none 0 0,.slice none 0 0,.int .i64 0,.int .i64 0,.slice none 0 0,.slice none 0 0,.int .i64 0,.int .i64 0,.string ⟨#[]⟩,.slice none 0 0,.int .i64 0,.int .i64 0,.string ⟨#[]⟩,.slice none 0 0,.string ⟨#[]⟩,.int .i64 0,.slice none 0 0,.int .i64 0,.int .i64 0,.slice none 0 0,.slice none 0 0,.int .i64 0,.int .i64 0,.string ⟨#[]⟩,.slice none 0 0,.int .i64 0,.int .i64 0,.string ⟨#[]⟩,.slice none 0 0,.string ⟨#[]⟩,.int .i64 0,.slice none 0 0,.slice none 0 0]
theorem zSt_ni:∀t u,zSt[1]? ≠some (.iface t u):=fun t u e=>by cases e
theorem zQt_ni:∀t u,zQt[1]? ≠some (.iface t u):=fun t u e=>by cases e
theorem Tryz.stLoad {w:World}{h:Nat}{cs:List Value}(hr:w.rangeAt h 0 cs)(hl:cs.length=35):(loadVar 65 ⟨h,0,none⟩).run Tryz.prog w= .ok (.agg cs.toArray) w:=
 run_loadVar_mid w h 0 _ cs _ hr Tryz.underlying65 rfl (by rw[hl];kernel_rfl)
theorem Tryz.qtLoad {w:World}{h:Nat}{cs:List Value}(hr:w.rangeAt h 0 cs)(hl:cs.length=34):(loadVar 63 ⟨h,0,none⟩).run Tryz.prog w= .ok (.agg cs.toArray) w:=
 run_loadVar_mid w h 0 _ cs _ hr Tryz.underlying63 rfl (by rw[hl];kernel_rfl)
theorem stE {S:Nat→Prop}{w:World}{p:SP}{ce cv cc ca:List Value}{v1 v2 v3 v4 v5:Value}{body els:List ST}(h0:i64 p.kind∧p.name.size≤maxLen∧p.field.size≤maxLen∧p.callee.size≤maxLen)(h1:exX.rel S w ce p.e)(h2:exX.rel S w cv p.v)(h3:cnX.rel S w cc p.c)(h4:asX.rel S w ca p.a)(h5:Pak.Slot exX S w v1 p.args)(h6:Pak.Slot exX S w v2 p.ghosts)(h7:Pak.Slot strSh S w v3 p.fields)(h8:Pak.Slot stX S w v4 body)(h9:Pak.Slot stX S w v5 els):
 stX.rel S w ([.int .i64 p.kind,.string p.name,.string p.field,.string p.callee] ++ (ce ++ (cv ++ (cc ++ (ca ++ [v1,v2,v3,v4,v5]))))) (.mk p body els):=by
 obtain⟨m1,h1⟩:=h1
 obtain⟨m2,h2⟩:=h2
 obtain⟨m3,h3⟩:=h3
 obtain⟨m4,h4⟩:=h4
 obtain⟨m5,h5⟩:=slot_layers exprSh_k exprUp h5
 obtain⟨m6,h6⟩:=slot_layers exprSh_k exprUp h6
 obtain⟨m8,h8⟩:=slot_layers stmtSh_k stmtUp h8
 obtain⟨m9,h9⟩:=slot_layers stmtSh_k stmtUp h9
 exact⟨m1+m2+m3+m4+m5+m6+m8+m9+1,ce,cv,cc,ca,v1,v2,v3,v4,v5,rfl,h0,⟨upTo exprUp h1 (by omega),upTo exprUp h2 (by omega),upTo condUp h3 (by omega),upTo assnUp h4 (by omega)⟩,⟨h5 _ (by omega),h6 _ (by omega),h7⟩,h8 _ (by omega),h9 _ (by omega)⟩
theorem qtE {S:Nat→Prop}{w:World}{q:QT}{ca cb:List Value}{v1 v2 v3:Value}(h0:q.name.size≤maxLen)(h1:Pak.Slot strSh S w v1 q.params)(h2:Pak.Slot strSh S w v2 q.ghosts)(h3:asX.rel S w ca q.pre)(h4:asX.rel S w cb q.post)(h5:Pak.Slot stX S w v3 q.body):
 qtX.rel S w ([.string q.name,v1,v2] ++ (ca ++ (cb ++ [v3]))) q:=by
 obtain⟨m3,h3⟩:=h3
 obtain⟨m4,h4⟩:=h4
 obtain⟨m5,h5⟩:=slot_layers stmtSh_k stmtUp h5
 exact⟨m3+m4+m5,v1,v2,ca,cb,v3,rfl,h0,h1,h2,upTo assnUp h3 (by omega),upTo assnUp h4 (by omega),h5 _ (by omega)⟩
theorem zSt_rel (S:Nat→Prop)(W:World):stX.rel S W zSt default:=stE (p:=sp0) ⟨⟨by decide,by decide⟩,by decide,by decide,by decide⟩ (zEx_rel S W) (zEx_rel S W) (zCn_rel S W) (zAs_rel S W) (slot_none _ _ _) (slot_none _ _ _) (slot_none _ _ _) (slot_none _ _ _) (slot_none _ _ _)
def qt0:QT:=⟨(⟨#[]⟩:ByteArray),[],[],default,default,[]⟩
theorem zQt_rel (S:Nat→Prop)(W:World):qtX.rel S W zQt qt0:=qtE (q:=qt0) (by decide) (slot_none _ _ _) (slot_none _ _ _) (zAs_rel S W) (zAs_rel S W) (slot_none _ _ _)
theorem st_ni {S:Nat→Prop}{w:World}{cs:List Value}{x:ST}(h:stX.rel S w cs x):∃v,cs[1]? =some v∧∀t u,v≠ .iface t u:=by
 obtain⟨n,h⟩:=h
 cases n with
 | zero=>exact h.elim
 | succ n=>
   obtain⟨ce,cv,cc,ca,v1,v2,v3,v4,v5,rfl,_⟩:=h
   exact⟨_,rfl,fun t u e=>by cases e⟩
theorem qt_ni {S:Nat→Prop}{w:World}{cs:List Value}{x:QT}(h:qtX.rel S w cs x):∃v,cs[1]? =some v∧∀t u,v≠ .iface t u:=by
 obtain⟨n,v1,v2,ca,cb,v3,rfl,_,⟨a,c,rfl,_⟩,_⟩:=h
 exact⟨_,rfl,fun t u e=>by cases e⟩
theorem st_kind {S:Nat→Prop}{W:World}{cs:List Value}{x:ST}(k:Int)(hk2:i64 k)(h:stX.rel S W cs x):stX.rel S W (spl cs 0 [.int .i64 k]) (.mk { x.p with kind:=k } x.body x.els):=by
 obtain⟨n,h⟩:=h
 cases n with
 | zero=>exact h.elim
 | succ n=>
   obtain⟨ce,cv,cc,ca,v1,v2,v3,v4,v5,h1,⟨hk,ha,hb,hc⟩,⟨r1,r2,r3,r4⟩,⟨r5,r6,r7⟩,r8,r9⟩:=h
   have r1:exX.rel S W ce x.p.e:=⟨n,r1⟩
   have r2:exX.rel S W cv x.p.v:=⟨n,r2⟩
   have r3:cnX.rel S W cc x.p.c:=⟨n,r3⟩
   have r4:asX.rel S W ca x.p.a:=⟨n,r4⟩
   have r5:Pak.Slot exX S W v1 x.p.args:=slotImp (by rw[exprSh_k];rfl) (fun cs x h=>⟨n,h⟩) r5
   have r6:Pak.Slot exX S W v2 x.p.ghosts:=slotImp (by rw[exprSh_k];rfl) (fun cs x h=>⟨n,h⟩) r6
   have r8:Pak.Slot stX S W v4 x.body:=slotImp (by rw[stmtSh_k];rfl) (fun cs x h=>⟨n,h⟩) r8
   have r9:Pak.Slot stX S W v5 x.els:=slotImp (by rw[stmtSh_k];rfl) (fun cs x h=>⟨n,h⟩) r9
   obtain⟨_,rfl,_⟩:=ex_form r1
   obtain⟨_,rfl,_⟩:=ex_form r2
   obtain⟨_,_,_,rfl,_⟩:=cn_form r3
   obtain⟨_,_,_,_,_,_,_,_,_,_,_,_,_,_,_,_,_,rfl,_⟩:=as_form r4
   subst h1
   exact stE (p:={ x.p with kind:=k }) ⟨hk2,ha,hb,hc⟩ r1 r2 r3 r4 r5 r6 r7 r8 r9
theorem st_name {S:Nat→Prop}{W:World}{cs:List Value}{x:ST}(t:ByteArray)(ht:t.size≤maxLen)(h:stX.rel S W cs x):stX.rel S W (spl cs 1 [.string t]) (.mk { x.p with name:=t } x.body x.els):=by
 obtain⟨n,h⟩:=h
 cases n with
 | zero=>exact h.elim
 | succ n=>
   obtain⟨ce,cv,cc,ca,v1,v2,v3,v4,v5,h1,⟨hk,ha,hb,hc⟩,⟨r1,r2,r3,r4⟩,⟨r5,r6,r7⟩,r8,r9⟩:=h
   have r1:exX.rel S W ce x.p.e:=⟨n,r1⟩
   have r2:exX.rel S W cv x.p.v:=⟨n,r2⟩
   have r3:cnX.rel S W cc x.p.c:=⟨n,r3⟩
   have r4:asX.rel S W ca x.p.a:=⟨n,r4⟩
   have r5:Pak.Slot exX S W v1 x.p.args:=slotImp (by rw[exprSh_k];rfl) (fun cs x h=>⟨n,h⟩) r5
   have r6:Pak.Slot exX S W v2 x.p.ghosts:=slotImp (by rw[exprSh_k];rfl) (fun cs x h=>⟨n,h⟩) r6
   have r8:Pak.Slot stX S W v4 x.body:=slotImp (by rw[stmtSh_k];rfl) (fun cs x h=>⟨n,h⟩) r8
   have r9:Pak.Slot stX S W v5 x.els:=slotImp (by rw[stmtSh_k];rfl) (fun cs x h=>⟨n,h⟩) r9
   obtain⟨_,rfl,_⟩:=ex_form r1
   obtain⟨_,rfl,_⟩:=ex_form r2
   obtain⟨_,_,_,rfl,_⟩:=cn_form r3
   obtain⟨_,_,_,_,_,_,_,_,_,_,_,_,_,_,_,_,_,rfl,_⟩:=as_form r4
   subst h1
   exact stE (p:={ x.p with name:=t }) ⟨hk,ht,hb,hc⟩ r1 r2 r3 r4 r5 r6 r7 r8 r9
theorem st_field {S:Nat→Prop}{W:World}{cs:List Value}{x:ST}(t:ByteArray)(ht:t.size≤maxLen)(h:stX.rel S W cs x):stX.rel S W (spl cs 2 [.string t]) (.mk { x.p with field:=t } x.body x.els):=by
 obtain⟨n,h⟩:=h
 cases n with
 | zero=>exact h.elim
 | succ n=>
   obtain⟨ce,cv,cc,ca,v1,v2,v3,v4,v5,h1,⟨hk,ha,hb,hc⟩,⟨r1,r2,r3,r4⟩,⟨r5,r6,r7⟩,r8,r9⟩:=h
   have r1:exX.rel S W ce x.p.e:=⟨n,r1⟩
   have r2:exX.rel S W cv x.p.v:=⟨n,r2⟩
   have r3:cnX.rel S W cc x.p.c:=⟨n,r3⟩
   have r4:asX.rel S W ca x.p.a:=⟨n,r4⟩
   have r5:Pak.Slot exX S W v1 x.p.args:=slotImp (by rw[exprSh_k];rfl) (fun cs x h=>⟨n,h⟩) r5
   have r6:Pak.Slot exX S W v2 x.p.ghosts:=slotImp (by rw[exprSh_k];rfl) (fun cs x h=>⟨n,h⟩) r6
   have r8:Pak.Slot stX S W v4 x.body:=slotImp (by rw[stmtSh_k];rfl) (fun cs x h=>⟨n,h⟩) r8
   have r9:Pak.Slot stX S W v5 x.els:=slotImp (by rw[stmtSh_k];rfl) (fun cs x h=>⟨n,h⟩) r9
   obtain⟨_,rfl,_⟩:=ex_form r1
   obtain⟨_,rfl,_⟩:=ex_form r2
   obtain⟨_,_,_,rfl,_⟩:=cn_form r3
   obtain⟨_,_,_,_,_,_,_,_,_,_,_,_,_,_,_,_,_,rfl,_⟩:=as_form r4
   subst h1
   exact stE (p:={ x.p with field:=t }) ⟨hk,ha,ht,hc⟩ r1 r2 r3 r4 r5 r6 r7 r8 r9
theorem st_callee {S:Nat→Prop}{W:World}{cs:List Value}{x:ST}(t:ByteArray)(ht:t.size≤maxLen)(h:stX.rel S W cs x):stX.rel S W (spl cs 3 [.string t]) (.mk { x.p with callee:=t } x.body x.els):=by
 obtain⟨n,h⟩:=h
 cases n with
 | zero=>exact h.elim
 | succ n=>
   obtain⟨ce,cv,cc,ca,v1,v2,v3,v4,v5,h1,⟨hk,ha,hb,hc⟩,⟨r1,r2,r3,r4⟩,⟨r5,r6,r7⟩,r8,r9⟩:=h
   have r1:exX.rel S W ce x.p.e:=⟨n,r1⟩
   have r2:exX.rel S W cv x.p.v:=⟨n,r2⟩
   have r3:cnX.rel S W cc x.p.c:=⟨n,r3⟩
   have r4:asX.rel S W ca x.p.a:=⟨n,r4⟩
   have r5:Pak.Slot exX S W v1 x.p.args:=slotImp (by rw[exprSh_k];rfl) (fun cs x h=>⟨n,h⟩) r5
   have r6:Pak.Slot exX S W v2 x.p.ghosts:=slotImp (by rw[exprSh_k];rfl) (fun cs x h=>⟨n,h⟩) r6
   have r8:Pak.Slot stX S W v4 x.body:=slotImp (by rw[stmtSh_k];rfl) (fun cs x h=>⟨n,h⟩) r8
   have r9:Pak.Slot stX S W v5 x.els:=slotImp (by rw[stmtSh_k];rfl) (fun cs x h=>⟨n,h⟩) r9
   obtain⟨_,rfl,_⟩:=ex_form r1
   obtain⟨_,rfl,_⟩:=ex_form r2
   obtain⟨_,_,_,rfl,_⟩:=cn_form r3
   obtain⟨_,_,_,_,_,_,_,_,_,_,_,_,_,_,_,_,_,rfl,_⟩:=as_form r4
   subst h1
   exact stE (p:={ x.p with callee:=t }) ⟨hk,ha,hb,ht⟩ r1 r2 r3 r4 r5 r6 r7 r8 r9
theorem st_e {S:Nat→Prop}{W:World}{cs:List Value}{x:ST}{cs2:List Value}{y:ET}(hy:exX.rel S W cs2 y)(h:stX.rel S W cs x):stX.rel S W (spl cs 4 cs2) (.mk { x.p with e:=y } x.body x.els):=by
 obtain⟨n,h⟩:=h
 cases n with
 | zero=>exact h.elim
 | succ n=>
   obtain⟨ce,cv,cc,ca,v1,v2,v3,v4,v5,h1,⟨hk,ha,hb,hc⟩,⟨r1,r2,r3,r4⟩,⟨r5,r6,r7⟩,r8,r9⟩:=h
   have r1:exX.rel S W ce x.p.e:=⟨n,r1⟩
   have r2:exX.rel S W cv x.p.v:=⟨n,r2⟩
   have r3:cnX.rel S W cc x.p.c:=⟨n,r3⟩
   have r4:asX.rel S W ca x.p.a:=⟨n,r4⟩
   have r5:Pak.Slot exX S W v1 x.p.args:=slotImp (by rw[exprSh_k];rfl) (fun cs x h=>⟨n,h⟩) r5
   have r6:Pak.Slot exX S W v2 x.p.ghosts:=slotImp (by rw[exprSh_k];rfl) (fun cs x h=>⟨n,h⟩) r6
   have r8:Pak.Slot stX S W v4 x.body:=slotImp (by rw[stmtSh_k];rfl) (fun cs x h=>⟨n,h⟩) r8
   have r9:Pak.Slot stX S W v5 x.els:=slotImp (by rw[stmtSh_k];rfl) (fun cs x h=>⟨n,h⟩) r9
   obtain⟨_,rfl,_⟩:=ex_form r1
   obtain⟨_,rfl,_⟩:=ex_form r2
   obtain⟨_,_,_,rfl,_⟩:=cn_form r3
   obtain⟨_,_,_,_,_,_,_,_,_,_,_,_,_,_,_,_,_,rfl,_⟩:=as_form r4
   subst h1
   obtain⟨_,rfl,_⟩:=ex_form hy
   exact stE (p:={ x.p with e:=y }) ⟨hk,ha,hb,hc⟩ hy r2 r3 r4 r5 r6 r7 r8 r9
theorem st_v {S:Nat→Prop}{W:World}{cs:List Value}{x:ST}{cs2:List Value}{y:ET}(hy:exX.rel S W cs2 y)(h:stX.rel S W cs x):stX.rel S W (spl cs 8 cs2) (.mk { x.p with v:=y } x.body x.els):=by
 obtain⟨n,h⟩:=h
 cases n with
 | zero=>exact h.elim
 | succ n=>
   obtain⟨ce,cv,cc,ca,v1,v2,v3,v4,v5,h1,⟨hk,ha,hb,hc⟩,⟨r1,r2,r3,r4⟩,⟨r5,r6,r7⟩,r8,r9⟩:=h
   have r1:exX.rel S W ce x.p.e:=⟨n,r1⟩
   have r2:exX.rel S W cv x.p.v:=⟨n,r2⟩
   have r3:cnX.rel S W cc x.p.c:=⟨n,r3⟩
   have r4:asX.rel S W ca x.p.a:=⟨n,r4⟩
   have r5:Pak.Slot exX S W v1 x.p.args:=slotImp (by rw[exprSh_k];rfl) (fun cs x h=>⟨n,h⟩) r5
   have r6:Pak.Slot exX S W v2 x.p.ghosts:=slotImp (by rw[exprSh_k];rfl) (fun cs x h=>⟨n,h⟩) r6
   have r8:Pak.Slot stX S W v4 x.body:=slotImp (by rw[stmtSh_k];rfl) (fun cs x h=>⟨n,h⟩) r8
   have r9:Pak.Slot stX S W v5 x.els:=slotImp (by rw[stmtSh_k];rfl) (fun cs x h=>⟨n,h⟩) r9
   obtain⟨_,rfl,_⟩:=ex_form r1
   obtain⟨_,rfl,_⟩:=ex_form r2
   obtain⟨_,_,_,rfl,_⟩:=cn_form r3
   obtain⟨_,_,_,_,_,_,_,_,_,_,_,_,_,_,_,_,_,rfl,_⟩:=as_form r4
   subst h1
   obtain⟨_,rfl,_⟩:=ex_form hy
   exact stE (p:={ x.p with v:=y }) ⟨hk,ha,hb,hc⟩ r1 hy r3 r4 r5 r6 r7 r8 r9
theorem st_c {S:Nat→Prop}{W:World}{cs:List Value}{x:ST}{cs2:List Value}{y:CT}(hy:cnX.rel S W cs2 y)(h:stX.rel S W cs x):stX.rel S W (spl cs 12 cs2) (.mk { x.p with c:=y } x.body x.els):=by
 obtain⟨n,h⟩:=h
 cases n with
 | zero=>exact h.elim
 | succ n=>
   obtain⟨ce,cv,cc,ca,v1,v2,v3,v4,v5,h1,⟨hk,ha,hb,hc⟩,⟨r1,r2,r3,r4⟩,⟨r5,r6,r7⟩,r8,r9⟩:=h
   have r1:exX.rel S W ce x.p.e:=⟨n,r1⟩
   have r2:exX.rel S W cv x.p.v:=⟨n,r2⟩
   have r3:cnX.rel S W cc x.p.c:=⟨n,r3⟩
   have r4:asX.rel S W ca x.p.a:=⟨n,r4⟩
   have r5:Pak.Slot exX S W v1 x.p.args:=slotImp (by rw[exprSh_k];rfl) (fun cs x h=>⟨n,h⟩) r5
   have r6:Pak.Slot exX S W v2 x.p.ghosts:=slotImp (by rw[exprSh_k];rfl) (fun cs x h=>⟨n,h⟩) r6
   have r8:Pak.Slot stX S W v4 x.body:=slotImp (by rw[stmtSh_k];rfl) (fun cs x h=>⟨n,h⟩) r8
   have r9:Pak.Slot stX S W v5 x.els:=slotImp (by rw[stmtSh_k];rfl) (fun cs x h=>⟨n,h⟩) r9
   obtain⟨_,rfl,_⟩:=ex_form r1
   obtain⟨_,rfl,_⟩:=ex_form r2
   obtain⟨_,_,_,rfl,_⟩:=cn_form r3
   obtain⟨_,_,_,_,_,_,_,_,_,_,_,_,_,_,_,_,_,rfl,_⟩:=as_form r4
   subst h1
   obtain⟨_,_,_,rfl,_⟩:=cn_form hy
   exact stE (p:={ x.p with c:=y }) ⟨hk,ha,hb,hc⟩ r1 r2 hy r4 r5 r6 r7 r8 r9
theorem st_a {S:Nat→Prop}{W:World}{cs:List Value}{x:ST}{cs2:List Value}{y:AT}(hy:asX.rel S W cs2 y)(h:stX.rel S W cs x):stX.rel S W (spl cs 15 cs2) (.mk { x.p with a:=y } x.body x.els):=by
 obtain⟨n,h⟩:=h
 cases n with
 | zero=>exact h.elim
 | succ n=>
   obtain⟨ce,cv,cc,ca,v1,v2,v3,v4,v5,h1,⟨hk,ha,hb,hc⟩,⟨r1,r2,r3,r4⟩,⟨r5,r6,r7⟩,r8,r9⟩:=h
   have r1:exX.rel S W ce x.p.e:=⟨n,r1⟩
   have r2:exX.rel S W cv x.p.v:=⟨n,r2⟩
   have r3:cnX.rel S W cc x.p.c:=⟨n,r3⟩
   have r4:asX.rel S W ca x.p.a:=⟨n,r4⟩
   have r5:Pak.Slot exX S W v1 x.p.args:=slotImp (by rw[exprSh_k];rfl) (fun cs x h=>⟨n,h⟩) r5
   have r6:Pak.Slot exX S W v2 x.p.ghosts:=slotImp (by rw[exprSh_k];rfl) (fun cs x h=>⟨n,h⟩) r6
   have r8:Pak.Slot stX S W v4 x.body:=slotImp (by rw[stmtSh_k];rfl) (fun cs x h=>⟨n,h⟩) r8
   have r9:Pak.Slot stX S W v5 x.els:=slotImp (by rw[stmtSh_k];rfl) (fun cs x h=>⟨n,h⟩) r9
   obtain⟨_,rfl,_⟩:=ex_form r1
   obtain⟨_,rfl,_⟩:=ex_form r2
   obtain⟨_,_,_,rfl,_⟩:=cn_form r3
   obtain⟨_,_,_,_,_,_,_,_,_,_,_,_,_,_,_,_,_,rfl,_⟩:=as_form r4
   subst h1
   obtain⟨_,_,_,_,_,_,_,_,_,_,_,_,_,_,_,_,_,rfl,_⟩:=as_form hy
   exact stE (p:={ x.p with a:=y }) ⟨hk,ha,hb,hc⟩ r1 r2 r3 hy r5 r6 r7 r8 r9
theorem st_args {S:Nat→Prop}{W:World}{cs:List Value}{x:ST}{u:Value}{l:List ET}(hl:Pak.Slot exX S W u l)(h:stX.rel S W cs x):stX.rel S W (spl cs 30 [u]) (.mk { x.p with args:=l } x.body x.els):=by
 obtain⟨n,h⟩:=h
 cases n with
 | zero=>exact h.elim
 | succ n=>
   obtain⟨ce,cv,cc,ca,v1,v2,v3,v4,v5,h1,⟨hk,ha,hb,hc⟩,⟨r1,r2,r3,r4⟩,⟨r5,r6,r7⟩,r8,r9⟩:=h
   have r1:exX.rel S W ce x.p.e:=⟨n,r1⟩
   have r2:exX.rel S W cv x.p.v:=⟨n,r2⟩
   have r3:cnX.rel S W cc x.p.c:=⟨n,r3⟩
   have r4:asX.rel S W ca x.p.a:=⟨n,r4⟩
   have r5:Pak.Slot exX S W v1 x.p.args:=slotImp (by rw[exprSh_k];rfl) (fun cs x h=>⟨n,h⟩) r5
   have r6:Pak.Slot exX S W v2 x.p.ghosts:=slotImp (by rw[exprSh_k];rfl) (fun cs x h=>⟨n,h⟩) r6
   have r8:Pak.Slot stX S W v4 x.body:=slotImp (by rw[stmtSh_k];rfl) (fun cs x h=>⟨n,h⟩) r8
   have r9:Pak.Slot stX S W v5 x.els:=slotImp (by rw[stmtSh_k];rfl) (fun cs x h=>⟨n,h⟩) r9
   obtain⟨_,rfl,_⟩:=ex_form r1
   obtain⟨_,rfl,_⟩:=ex_form r2
   obtain⟨_,_,_,rfl,_⟩:=cn_form r3
   obtain⟨_,_,_,_,_,_,_,_,_,_,_,_,_,_,_,_,_,rfl,_⟩:=as_form r4
   subst h1
   exact stE (p:={ x.p with args:=l }) ⟨hk,ha,hb,hc⟩ r1 r2 r3 r4 hl r6 r7 r8 r9
theorem st_ghosts {S:Nat→Prop}{W:World}{cs:List Value}{x:ST}{u:Value}{l:List ET}(hl:Pak.Slot exX S W u l)(h:stX.rel S W cs x):stX.rel S W (spl cs 31 [u]) (.mk { x.p with ghosts:=l } x.body x.els):=by
 obtain⟨n,h⟩:=h
 cases n with
 | zero=>exact h.elim
 | succ n=>
   obtain⟨ce,cv,cc,ca,v1,v2,v3,v4,v5,h1,⟨hk,ha,hb,hc⟩,⟨r1,r2,r3,r4⟩,⟨r5,r6,r7⟩,r8,r9⟩:=h
   have r1:exX.rel S W ce x.p.e:=⟨n,r1⟩
   have r2:exX.rel S W cv x.p.v:=⟨n,r2⟩
   have r3:cnX.rel S W cc x.p.c:=⟨n,r3⟩
   have r4:asX.rel S W ca x.p.a:=⟨n,r4⟩
   have r5:Pak.Slot exX S W v1 x.p.args:=slotImp (by rw[exprSh_k];rfl) (fun cs x h=>⟨n,h⟩) r5
   have r6:Pak.Slot exX S W v2 x.p.ghosts:=slotImp (by rw[exprSh_k];rfl) (fun cs x h=>⟨n,h⟩) r6
   have r8:Pak.Slot stX S W v4 x.body:=slotImp (by rw[stmtSh_k];rfl) (fun cs x h=>⟨n,h⟩) r8
   have r9:Pak.Slot stX S W v5 x.els:=slotImp (by rw[stmtSh_k];rfl) (fun cs x h=>⟨n,h⟩) r9
   obtain⟨_,rfl,_⟩:=ex_form r1
   obtain⟨_,rfl,_⟩:=ex_form r2
   obtain⟨_,_,_,rfl,_⟩:=cn_form r3
   obtain⟨_,_,_,_,_,_,_,_,_,_,_,_,_,_,_,_,_,rfl,_⟩:=as_form r4
   subst h1
   exact stE (p:={ x.p with ghosts:=l }) ⟨hk,ha,hb,hc⟩ r1 r2 r3 r4 r5 hl r7 r8 r9
theorem st_fields {S:Nat→Prop}{W:World}{cs:List Value}{x:ST}{u:Value}{l:List ByteArray}(hl:Pak.Slot strSh S W u l)(h:stX.rel S W cs x):stX.rel S W (spl cs 32 [u]) (.mk { x.p with fields:=l } x.body x.els):=by
 obtain⟨n,h⟩:=h
 cases n with
 | zero=>exact h.elim
 | succ n=>
   obtain⟨ce,cv,cc,ca,v1,v2,v3,v4,v5,h1,⟨hk,ha,hb,hc⟩,⟨r1,r2,r3,r4⟩,⟨r5,r6,r7⟩,r8,r9⟩:=h
   have r1:exX.rel S W ce x.p.e:=⟨n,r1⟩
   have r2:exX.rel S W cv x.p.v:=⟨n,r2⟩
   have r3:cnX.rel S W cc x.p.c:=⟨n,r3⟩
   have r4:asX.rel S W ca x.p.a:=⟨n,r4⟩
   have r5:Pak.Slot exX S W v1 x.p.args:=slotImp (by rw[exprSh_k];rfl) (fun cs x h=>⟨n,h⟩) r5
   have r6:Pak.Slot exX S W v2 x.p.ghosts:=slotImp (by rw[exprSh_k];rfl) (fun cs x h=>⟨n,h⟩) r6
   have r8:Pak.Slot stX S W v4 x.body:=slotImp (by rw[stmtSh_k];rfl) (fun cs x h=>⟨n,h⟩) r8
   have r9:Pak.Slot stX S W v5 x.els:=slotImp (by rw[stmtSh_k];rfl) (fun cs x h=>⟨n,h⟩) r9
   obtain⟨_,rfl,_⟩:=ex_form r1
   obtain⟨_,rfl,_⟩:=ex_form r2
   obtain⟨_,_,_,rfl,_⟩:=cn_form r3
   obtain⟨_,_,_,_,_,_,_,_,_,_,_,_,_,_,_,_,_,rfl,_⟩:=as_form r4
   subst h1
   exact stE (p:={ x.p with fields:=l }) ⟨hk,ha,hb,hc⟩ r1 r2 r3 r4 r5 r6 hl r8 r9
theorem st_body {S:Nat→Prop}{W:World}{cs:List Value}{x:ST}{u:Value}{l:List ST}(hl:Pak.Slot stX S W u l)(h:stX.rel S W cs x):stX.rel S W (spl cs 33 [u]) (.mk x.p l x.els):=by
 obtain⟨n,h⟩:=h
 cases n with
 | zero=>exact h.elim
 | succ n=>
   obtain⟨ce,cv,cc,ca,v1,v2,v3,v4,v5,h1,⟨hk,ha,hb,hc⟩,⟨r1,r2,r3,r4⟩,⟨r5,r6,r7⟩,r8,r9⟩:=h
   have r1:exX.rel S W ce x.p.e:=⟨n,r1⟩
   have r2:exX.rel S W cv x.p.v:=⟨n,r2⟩
   have r3:cnX.rel S W cc x.p.c:=⟨n,r3⟩
   have r4:asX.rel S W ca x.p.a:=⟨n,r4⟩
   have r5:Pak.Slot exX S W v1 x.p.args:=slotImp (by rw[exprSh_k];rfl) (fun cs x h=>⟨n,h⟩) r5
   have r6:Pak.Slot exX S W v2 x.p.ghosts:=slotImp (by rw[exprSh_k];rfl) (fun cs x h=>⟨n,h⟩) r6
   have r8:Pak.Slot stX S W v4 x.body:=slotImp (by rw[stmtSh_k];rfl) (fun cs x h=>⟨n,h⟩) r8
   have r9:Pak.Slot stX S W v5 x.els:=slotImp (by rw[stmtSh_k];rfl) (fun cs x h=>⟨n,h⟩) r9
   obtain⟨_,rfl,_⟩:=ex_form r1
   obtain⟨_,rfl,_⟩:=ex_form r2
   obtain⟨_,_,_,rfl,_⟩:=cn_form r3
   obtain⟨_,_,_,_,_,_,_,_,_,_,_,_,_,_,_,_,_,rfl,_⟩:=as_form r4
   subst h1
   exact stE (p:=x.p) ⟨hk,ha,hb,hc⟩ r1 r2 r3 r4 r5 r6 r7 hl r9
theorem st_els {S:Nat→Prop}{W:World}{cs:List Value}{x:ST}{u:Value}{l:List ST}(hl:Pak.Slot stX S W u l)(h:stX.rel S W cs x):stX.rel S W (spl cs 34 [u]) (.mk x.p x.body l):=by
 obtain⟨n,h⟩:=h
 cases n with
 | zero=>exact h.elim
 | succ n=>
   obtain⟨ce,cv,cc,ca,v1,v2,v3,v4,v5,h1,⟨hk,ha,hb,hc⟩,⟨r1,r2,r3,r4⟩,⟨r5,r6,r7⟩,r8,r9⟩:=h
   have r1:exX.rel S W ce x.p.e:=⟨n,r1⟩
   have r2:exX.rel S W cv x.p.v:=⟨n,r2⟩
   have r3:cnX.rel S W cc x.p.c:=⟨n,r3⟩
   have r4:asX.rel S W ca x.p.a:=⟨n,r4⟩
   have r5:Pak.Slot exX S W v1 x.p.args:=slotImp (by rw[exprSh_k];rfl) (fun cs x h=>⟨n,h⟩) r5
   have r6:Pak.Slot exX S W v2 x.p.ghosts:=slotImp (by rw[exprSh_k];rfl) (fun cs x h=>⟨n,h⟩) r6
   have r8:Pak.Slot stX S W v4 x.body:=slotImp (by rw[stmtSh_k];rfl) (fun cs x h=>⟨n,h⟩) r8
   have r9:Pak.Slot stX S W v5 x.els:=slotImp (by rw[stmtSh_k];rfl) (fun cs x h=>⟨n,h⟩) r9
   obtain⟨_,rfl,_⟩:=ex_form r1
   obtain⟨_,rfl,_⟩:=ex_form r2
   obtain⟨_,_,_,rfl,_⟩:=cn_form r3
   obtain⟨_,_,_,_,_,_,_,_,_,_,_,_,_,_,_,_,_,rfl,_⟩:=as_form r4
   subst h1
   exact stE (p:=x.p) ⟨hk,ha,hb,hc⟩ r1 r2 r3 r4 r5 r6 r7 r8 hl
theorem qt_name {S:Nat→Prop}{W:World}{cs:List Value}{x:QT}(t:ByteArray)(ht:t.size≤maxLen)(h:qtX.rel S W cs x):qtX.rel S W (spl cs 0 [.string t]) { x with name:=t }:=by
 obtain⟨n,v1,v2,ca,cb,v3,h1,ha,r1,r2,r3,r4,r5⟩:=h
 have r3:asX.rel S W ca x.pre:=⟨n,r3⟩
 have r4:asX.rel S W cb x.post:=⟨n,r4⟩
 have r5:Pak.Slot stX S W v3 x.body:=slotImp (by rw[stmtSh_k];rfl) (fun cs x h=>⟨n,h⟩) r5
 obtain⟨_,_,_,_,_,_,_,_,_,_,_,_,_,_,_,_,_,rfl,_⟩:=as_form r3
 obtain⟨_,_,_,_,_,_,_,_,_,_,_,_,_,_,_,_,_,rfl,_⟩:=as_form r4
 subst h1
 exact qtE (q:={ x with name:=t }) ht r1 r2 r3 r4 r5
theorem qt_params {S:Nat→Prop}{W:World}{cs:List Value}{x:QT}{u:Value}{l:List ByteArray}(hl:Pak.Slot strSh S W u l)(h:qtX.rel S W cs x):qtX.rel S W (spl cs 1 [u]) { x with params:=l }:=by
 obtain⟨n,v1,v2,ca,cb,v3,h1,ha,r1,r2,r3,r4,r5⟩:=h
 have r3:asX.rel S W ca x.pre:=⟨n,r3⟩
 have r4:asX.rel S W cb x.post:=⟨n,r4⟩
 have r5:Pak.Slot stX S W v3 x.body:=slotImp (by rw[stmtSh_k];rfl) (fun cs x h=>⟨n,h⟩) r5
 obtain⟨_,_,_,_,_,_,_,_,_,_,_,_,_,_,_,_,_,rfl,_⟩:=as_form r3
 obtain⟨_,_,_,_,_,_,_,_,_,_,_,_,_,_,_,_,_,rfl,_⟩:=as_form r4
 subst h1
 exact qtE (q:={ x with params:=l }) ha hl r2 r3 r4 r5
theorem qt_ghosts {S:Nat→Prop}{W:World}{cs:List Value}{x:QT}{u:Value}{l:List ByteArray}(hl:Pak.Slot strSh S W u l)(h:qtX.rel S W cs x):qtX.rel S W (spl cs 2 [u]) { x with ghosts:=l }:=by
 obtain⟨n,v1,v2,ca,cb,v3,h1,ha,r1,r2,r3,r4,r5⟩:=h
 have r3:asX.rel S W ca x.pre:=⟨n,r3⟩
 have r4:asX.rel S W cb x.post:=⟨n,r4⟩
 have r5:Pak.Slot stX S W v3 x.body:=slotImp (by rw[stmtSh_k];rfl) (fun cs x h=>⟨n,h⟩) r5
 obtain⟨_,_,_,_,_,_,_,_,_,_,_,_,_,_,_,_,_,rfl,_⟩:=as_form r3
 obtain⟨_,_,_,_,_,_,_,_,_,_,_,_,_,_,_,_,_,rfl,_⟩:=as_form r4
 subst h1
 exact qtE (q:={ x with ghosts:=l }) ha r1 hl r3 r4 r5
theorem qt_pre {S:Nat→Prop}{W:World}{cs:List Value}{x:QT}{cs2:List Value}{y:AT}(hy:asX.rel S W cs2 y)(h:qtX.rel S W cs x):qtX.rel S W (spl cs 3 cs2) { x with pre:=y }:=by
 obtain⟨n,v1,v2,ca,cb,v3,h1,ha,r1,r2,r3,r4,r5⟩:=h
 have r3:asX.rel S W ca x.pre:=⟨n,r3⟩
 have r4:asX.rel S W cb x.post:=⟨n,r4⟩
 have r5:Pak.Slot stX S W v3 x.body:=slotImp (by rw[stmtSh_k];rfl) (fun cs x h=>⟨n,h⟩) r5
 obtain⟨_,_,_,_,_,_,_,_,_,_,_,_,_,_,_,_,_,rfl,_⟩:=as_form r3
 obtain⟨_,_,_,_,_,_,_,_,_,_,_,_,_,_,_,_,_,rfl,_⟩:=as_form r4
 subst h1
 obtain⟨_,_,_,_,_,_,_,_,_,_,_,_,_,_,_,_,_,rfl,_⟩:=as_form hy
 exact qtE (q:={ x with pre:=y }) ha r1 r2 hy r4 r5
theorem qt_post {S:Nat→Prop}{W:World}{cs:List Value}{x:QT}{cs2:List Value}{y:AT}(hy:asX.rel S W cs2 y)(h:qtX.rel S W cs x):qtX.rel S W (spl cs 18 cs2) { x with post:=y }:=by
 obtain⟨n,v1,v2,ca,cb,v3,h1,ha,r1,r2,r3,r4,r5⟩:=h
 have r3:asX.rel S W ca x.pre:=⟨n,r3⟩
 have r4:asX.rel S W cb x.post:=⟨n,r4⟩
 have r5:Pak.Slot stX S W v3 x.body:=slotImp (by rw[stmtSh_k];rfl) (fun cs x h=>⟨n,h⟩) r5
 obtain⟨_,_,_,_,_,_,_,_,_,_,_,_,_,_,_,_,_,rfl,_⟩:=as_form r3
 obtain⟨_,_,_,_,_,_,_,_,_,_,_,_,_,_,_,_,_,rfl,_⟩:=as_form r4
 subst h1
 obtain⟨_,_,_,_,_,_,_,_,_,_,_,_,_,_,_,_,_,rfl,_⟩:=as_form hy
 exact qtE (q:={ x with post:=y }) ha r1 r2 r3 hy r5
theorem qt_body {S:Nat→Prop}{W:World}{cs:List Value}{x:QT}{u:Value}{l:List ST}(hl:Pak.Slot stX S W u l)(h:qtX.rel S W cs x):qtX.rel S W (spl cs 33 [u]) { x with body:=l }:=by
 obtain⟨n,v1,v2,ca,cb,v3,h1,ha,r1,r2,r3,r4,r5⟩:=h
 have r3:asX.rel S W ca x.pre:=⟨n,r3⟩
 have r4:asX.rel S W cb x.post:=⟨n,r4⟩
 have r5:Pak.Slot stX S W v3 x.body:=slotImp (by rw[stmtSh_k];rfl) (fun cs x h=>⟨n,h⟩) r5
 obtain⟨_,_,_,_,_,_,_,_,_,_,_,_,_,_,_,_,_,rfl,_⟩:=as_form r3
 obtain⟨_,_,_,_,_,_,_,_,_,_,_,_,_,_,_,_,_,rfl,_⟩:=as_form r4
 subst h1
 exact qtE (q:={ x with body:=l }) ha r1 r2 r3 r4 hl
end
section
open Go.RowKit
theorem cell_any (C:PC)(s:PS)(w wr:World)(M:Nat)(x:ST)(cs:List Value)(h:LP stX C w M s x cs wr):
 Calls Tryz.prog 201 #[C.p,.pointer (some ⟨M,0,none⟩)] wr fun e W'=>e= .returned (.tuple #[])∧∃cs',LP stX C w M (pcell C.tk C.en x.p s).2 (ST.mk (pcell C.tk C.en x.p s).1 x.body x.els) cs' W':=by
 obtain⟨eq0,heq0⟩:∃x',x'=(pex C.tk C.en s).1:=⟨_,rfl⟩
 obtain⟨s1,hs1⟩:∃s',s'=(pex C.tk C.en s).2:=⟨_,rfl⟩
 have H0:=Lib.hid (fun W (hW:PSt C s W)=>ex_any C s W hW)
 have X0:Hid (∀W e1 W1 cs,LP stX C (w) (M) s x cs W→PE (Vx exX) (pex C.tk C.en) C s W e1 W1→∃cs2:List Value,e1= .returned (.agg cs2.toArray)∧cs2.length=4∧(∀u∈cs2,u.oneCell'=true)∧W1.there (M) 4 cs2.length∧∀W9,Stored (M) 4 cs2 W1 W9→LP stX C (w) (M) s1 (ST.mk { x.p with e:=eq0 } x.body x.els) (spl cs 4 cs2) W9):=fun W e1 W1 cs hl hq=>by
  obtain⟨cs2,a1,a2,a3,a4,a5,a6⟩:=pe_x hq
  have a2:cs2.length=4:=a2
  rw[←hs1]at a5
  rw[←heq0]at a4
  exact⟨cs2,a1,a2,a3,by rw[a2];exact hl.part a6 a5 (by show 4+4≤35;omega),fun W9 hst=>hl.setP a6 a5 a4 (by show 4+4≤35;omega) (st_ni hl.tree) hst (fun S W hx hy=>st_e hy hx)⟩
 obtain⟨s2,hs2⟩:∃s',s'=pm1 C.tk C.en (⟨#[46]⟩:ByteArray) s1:=⟨_,rfl⟩
 have H1:=Lib.hid (fun(W:World) (G:Nat) (hG:W.heap.size=G) (hW:PSt C s1 W)=>must1_at C s1 (⟨#[46]⟩:ByteArray) W G hG hW (by decide))
 have X1:Hid (∀W e1 W1,PE Vt (pmust C.tk C.en [(⟨#[46]⟩:ByteArray)]) C s1 W e1 W1→(∃x,e1= .returned (.string x))∧PSt C s2 W1∧KeptG C.g W W1):=fun W e1 W1 hq=>by rw[hs2];exact pe_t hq
 obtain⟨fq2,hfq2⟩:∃x',x'=(pof C.tk C.en 1 s2).1:=⟨_,rfl⟩
 obtain⟨s3,hs3⟩:∃s',s'=(pof C.tk C.en 1 s2).2:=⟨_,rfl⟩
 have H2:=Lib.hid (fun W (hW:PSt C s2 W)=>pname_any C s2 W hW)
 have X2:Hid (∀W e1 W1,PSt C s2 W→PE Vt (pof C.tk C.en 1) C s2 W e1 W1→e1= .returned (.string fq2)∧fq2.size≤maxLen∧PSt C s3 W1∧KeptG C.g W W1):=fun W e1 W1 hS hq=>by rw[hs3,hfq2];exact⟨(pe_v hq).1,by have:=pof_size 1 hS;unfold maxLen;omega,(pe_v hq).2⟩
 have e1:pcell C.tk C.en x.p s=({ x.p with e:=eq0,field:=fq2 },s3):=by subst_vars;rfl
 rw[e1]
 have HQ:Hid (∀W cs',LP stX C (w) (M) s3 (ST.mk { x.p with e:=eq0,field:=fq2 } x.body x.els) cs' W→(fun(e:Ending) (W':World)=>e= .returned (.tuple #[])∧∃cs',LP stX C w M s3 (ST.mk { x.p with e:=eq0,field:=fq2 } x.body x.els) cs' W') (.returned (.tuple #[])) W):=fun W cs' hl=>⟨rfl,cs',hl⟩
 have HL0:=Lib.hid h
 generalize (fun(e:Ending) (W':World)=>e= .returned (.tuple #[])∧∃cs',LP stX C w M s3 (ST.mk { x.p with e:=eq0,field:=fq2 } x.body x.els) cs' W')=Q at*
 clear e1 h heq0 hs1 hs2 hfq2 hs3
 go_enter Tryz.func201,Tryz.ntmps201
 go_wp2_with fail
 refine(H0.out wr HL0.out.ps).mono ?_
 rintro e w1 hq
 obtain⟨c1,rfl,l1,o1,t1,fin⟩:=X0.out _ _ _ _ HL0.out hq
 have HF1:=Lib.hid fin
 clear hq fin H0 X0 HL0
 go_wp2_with (first | (refine gateS 57 8 rfl ?_;refine wpList_store_there rfl 57 _ _ rfl (M) 4 rfl _ rfl (by rw[l1];kernel_rfl) o1 t1 ?_;intro w19 hst;have HL1:=Lib.hid (HF1.out _ hst);clear hst HF1))
 clear l1 o1 t1
 refine(H1.out w19 (w19.heap.size) (by simp[World.setCell]) HL1.out.ps).mono ?_
 rintro e w2 hq
 obtain⟨⟨y1,rfl⟩,hp,hk⟩:=X1.out _ _ _ hq
 have HL2:=Lib.hid (HL1.out.step hk hp)
 clear hq hp hk H1 X1
 clear HL1
 go_wp2_with fail
 refine(H2.out w2 HL2.out.ps).mono ?_
 rintro e w3 hq
 obtain⟨rfl,hb,hp,hk⟩:=X2.out _ _ _ HL2.out.ps hq
 have HM3:=Lib.hid (HL2.out.step hk hp)
 obtain⟨⟨v3,_,y3c⟩,f3c⟩:=HM3.out.cell (j:=2) (by show 2<35;omega)
 have HL3:Hid (LP stX C (w) (M) s3 (ST.mk { x.p with e:=eq0,field:=fq2 } x.body x.els) _ (w3.setCell ⟨M,2,none⟩ (.string fq2))):=Lib.hid (HM3.out.set1 (o:=2) (v:= .string fq2) (by show 2<35;omega) (st_ni HM3.out.tree) (fun S W h=>(st_field fq2 hb) h))
 clear hq hp hk hb H2 X2 HL2 HM3
 go_wp2_with fail
 try go_end0
 exact HQ.out _ _ HL3.out
theorem call_any (C:PC)(s:PS)(w wr:World)(M:Nat)(x:ST)(cs:List Value)(h:LP stX C w M s x cs wr):
 Calls Tryz.prog 202 #[C.p,.pointer (some ⟨M,0,none⟩)] wr fun e W'=>e= .returned (.tuple #[])∧∃cs',LP stX C w M (pcall C.tk C.en x.p s).2 (ST.mk (pcall C.tk C.en x.p s).1 x.body x.els) cs' W':=by
 obtain⟨s1,hs1⟩:∃s',s'=pm1 C.tk C.en (⟨#[99,97,108,108]⟩:ByteArray) s:=⟨_,rfl⟩
 have H0:=Lib.hid (fun(W:World) (G:Nat) (hG:W.heap.size=G) (hW:PSt C s W)=>must1_at C s (⟨#[99,97,108,108]⟩:ByteArray) W G hG hW (by decide))
 have X0:Hid (∀W e1 W1,PE Vt (pmust C.tk C.en [(⟨#[99,97,108,108]⟩:ByteArray)]) C s W e1 W1→(∃x,e1= .returned (.string x))∧PSt C s1 W1∧KeptG C.g W W1):=fun W e1 W1 hq=>by rw[hs1];exact pe_t hq
 obtain⟨fq1,hfq1⟩:∃x',x'=(pof C.tk C.en 1 s1).1:=⟨_,rfl⟩
 obtain⟨s2,hs2⟩:∃s',s'=(pof C.tk C.en 1 s1).2:=⟨_,rfl⟩
 have H1:=Lib.hid (fun W (hW:PSt C s1 W)=>pname_any C s1 W hW)
 have X1:Hid (∀W e1 W1,PSt C s1 W→PE Vt (pof C.tk C.en 1) C s1 W e1 W1→e1= .returned (.string fq1)∧fq1.size≤maxLen∧PSt C s2 W1∧KeptG C.g W W1):=fun W e1 W1 hS hq=>by rw[hs2,hfq1];exact⟨(pe_v hq).1,by have:=pof_size 1 hS;unfold maxLen;omega,(pe_v hq).2⟩
 obtain⟨s3,hs3⟩:∃s',s'=pm1 C.tk C.en (⟨#[40]⟩:ByteArray) s2:=⟨_,rfl⟩
 have H2:=Lib.hid (fun(W:World) (G:Nat) (hG:W.heap.size=G) (hW:PSt C s2 W)=>must1_at C s2 (⟨#[40]⟩:ByteArray) W G hG hW (by decide))
 have X2:Hid (∀W e1 W1,PE Vt (pmust C.tk C.en [(⟨#[40]⟩:ByteArray)]) C s2 W e1 W1→(∃x,e1= .returned (.string x))∧PSt C s3 W1∧KeptG C.g W W1):=fun W e1 W1 hq=>by rw[hs3];exact pe_t hq
 obtain⟨aq3,haq3⟩:∃x',x'=(pexprs C.tk C.en [(⟨#[59]⟩:ByteArray)] s3).1:=⟨_,rfl⟩
 obtain⟨s4,hs4⟩:∃s',s'=(pexprs C.tk C.en [(⟨#[59]⟩:ByteArray)] s3).2:=⟨_,rfl⟩
 have H3:=Lib.hid (fun(W:World) (G:Nat) (hG:W.heap.size=G) (hW:PSt C s3 W)=>exprs_at C s3 (⟨#[59]⟩:ByteArray) W G hG hW (by decide))
 have X3:Hid (∀W e1 W1 cs,LP stX C (w) (M) s3 (ST.mk { x.p with kind:=9,callee:=fq1 } x.body x.els) cs W→PE (Vs exX) (pexprs C.tk C.en [(⟨#[59]⟩:ByteArray)]) C s3 W e1 W1→∃a c,e1= .returned (.slice a aq3.length c)∧(∃z,W1.cell? ⟨M,30,none⟩=some z)∧W1.frozen? ⟨M,30,none⟩=false∧LP stX C (w) (M) s4 (ST.mk { x.p with kind:=9,callee:=fq1,args:=aq3 } x.body x.els) (spl cs 30 [.slice a aq3.length c]) (W1.setCell ⟨M,30,none⟩ (.slice a aq3.length c))):=fun W e1 W1 cs hl hq=>by
  obtain⟨a,c,a1,a2,a3,a4⟩:=pe_s hq
  rw[←hs4]at a3
  rw[←haq3]at a1 a2
  obtain⟨⟨z,_,z1⟩,z2⟩:=(hl.step a4 a3).cell (j:=30) (by show 30<35;omega)
  exact⟨a,c,a1,⟨z,z1⟩,z2,hl.setS a4 a3 a2 (by show 30<35;omega) (st_ni hl.tree) (fun S W hx hv=>st_args hv hx)⟩
 obtain⟨s5,hs5⟩:∃s',s'=pm1 C.tk C.en (⟨#[59]⟩:ByteArray) s4:=⟨_,rfl⟩
 have H4:=Lib.hid (fun(W:World) (G:Nat) (hG:W.heap.size=G) (hW:PSt C s4 W)=>must1_at C s4 (⟨#[59]⟩:ByteArray) W G hG hW (by decide))
 have X4:Hid (∀W e1 W1,PE Vt (pmust C.tk C.en [(⟨#[59]⟩:ByteArray)]) C s4 W e1 W1→(∃x,e1= .returned (.string x))∧PSt C s5 W1∧KeptG C.g W W1):=fun W e1 W1 hq=>by rw[hs5];exact pe_t hq
 obtain⟨gq5,hgq5⟩:∃x',x'=(pexprs C.tk C.en [(⟨#[41]⟩:ByteArray)] s5).1:=⟨_,rfl⟩
 obtain⟨s6,hs6⟩:∃s',s'=(pexprs C.tk C.en [(⟨#[41]⟩:ByteArray)] s5).2:=⟨_,rfl⟩
 have H5:=Lib.hid (fun(W:World) (G:Nat) (hG:W.heap.size=G) (hW:PSt C s5 W)=>exprs_at C s5 (⟨#[41]⟩:ByteArray) W G hG hW (by decide))
 have X5:Hid (∀W e1 W1 cs,LP stX C (w) (M) s5 (ST.mk { x.p with kind:=9,callee:=fq1,args:=aq3 } x.body x.els) cs W→PE (Vs exX) (pexprs C.tk C.en [(⟨#[41]⟩:ByteArray)]) C s5 W e1 W1→∃a c,e1= .returned (.slice a gq5.length c)∧(∃z,W1.cell? ⟨M,31,none⟩=some z)∧W1.frozen? ⟨M,31,none⟩=false∧LP stX C (w) (M) s6 (ST.mk { x.p with kind:=9,callee:=fq1,args:=aq3,ghosts:=gq5 } x.body x.els) (spl cs 31 [.slice a gq5.length c]) (W1.setCell ⟨M,31,none⟩ (.slice a gq5.length c))):=fun W e1 W1 cs hl hq=>by
  obtain⟨a,c,a1,a2,a3,a4⟩:=pe_s hq
  rw[←hs6]at a3
  rw[←hgq5]at a1 a2
  obtain⟨⟨z,_,z1⟩,z2⟩:=(hl.step a4 a3).cell (j:=31) (by show 31<35;omega)
  exact⟨a,c,a1,⟨z,z1⟩,z2,hl.setS a4 a3 a2 (by show 31<35;omega) (st_ni hl.tree) (fun S W hx hv=>st_ghosts hv hx)⟩
 obtain⟨s7,hs7⟩:∃s',s'=pm1 C.tk C.en (⟨#[41]⟩:ByteArray) s6:=⟨_,rfl⟩
 have H6:=Lib.hid (fun(W:World) (G:Nat) (hG:W.heap.size=G) (hW:PSt C s6 W)=>must1_at C s6 (⟨#[41]⟩:ByteArray) W G hG hW (by decide))
 have X6:Hid (∀W e1 W1,PE Vt (pmust C.tk C.en [(⟨#[41]⟩:ByteArray)]) C s6 W e1 W1→(∃x,e1= .returned (.string x))∧PSt C s7 W1∧KeptG C.g W W1):=fun W e1 W1 hq=>by rw[hs7];exact pe_t hq
 have e1:pcall C.tk C.en x.p s=({ x.p with kind:=9,callee:=fq1,args:=aq3,ghosts:=gq5 },s7):=by subst_vars;rfl
 rw[e1]
 have HQ:Hid (∀W cs',LP stX C (w) (M) s7 (ST.mk { x.p with kind:=9,callee:=fq1,args:=aq3,ghosts:=gq5 } x.body x.els) cs' W→(fun(e:Ending) (W':World)=>e= .returned (.tuple #[])∧∃cs',LP stX C w M s7 (ST.mk { x.p with kind:=9,callee:=fq1,args:=aq3,ghosts:=gq5 } x.body x.els) cs' W') (.returned (.tuple #[])) W):=fun W cs' hl=>⟨rfl,cs',hl⟩
 have HL0:=Lib.hid h
 generalize (fun(e:Ending) (W':World)=>e= .returned (.tuple #[])∧∃cs',LP stX C w M s7 (ST.mk { x.p with kind:=9,callee:=fq1,args:=aq3,ghosts:=gq5 } x.body x.els) cs' W')=Q at*
 clear e1 h hs1 hfq1 hs2 hs3 haq3 hs4 hs5 hgq5 hs6 hs7
 go_enter Tryz.func202,Tryz.ntmps202
 go_wp2_with fail
 refine(H0.out wr (wr.heap.size) (by simp[World.setCell]) HL0.out.ps).mono ?_
 rintro e w1 hq
 obtain⟨⟨y0,rfl⟩,hp,hk⟩:=X0.out _ _ _ hq
 have HL1:=Lib.hid (HL0.out.step hk hp)
 clear hq hp hk H0 X0
 clear HL0
 obtain⟨⟨v1k,_,y1k⟩,f1k⟩:=HL1.out.cell (j:=0) (by show 0<35;omega)
 have HK1:Hid (LP stX C (w) (M) s1 (ST.mk { x.p with kind:=9 } x.body x.els) _ (w1.setCell ⟨M,0,none⟩ (.int .i64 9))):=Lib.hid (HL1.out.set1 (o:=0) (v:= .int .i64 9) (by show 0<35;omega) (st_ni HL1.out.tree) (fun S W h=>st_kind 9 ⟨by decide,by decide⟩ h))
 clear HL1
 go_wp2_with fail
 clear y1k f1k
 refine(H1.out (w1.setCell ⟨M,0,none⟩ (.int .i64 9)) HK1.out.ps).mono ?_
 rintro e w2 hq
 obtain⟨rfl,hb,hp,hk⟩:=X1.out _ _ _ HK1.out.ps hq
 have HM2:=Lib.hid (HK1.out.step hk hp)
 obtain⟨⟨v2,_,y2c⟩,f2c⟩:=HM2.out.cell (j:=3) (by show 3<35;omega)
 have HL2:Hid (LP stX C (w) (M) s2 (ST.mk { x.p with kind:=9,callee:=fq1 } x.body x.els) _ (w2.setCell ⟨M,3,none⟩ (.string fq1))):=Lib.hid (HM2.out.set1 (o:=3) (v:= .string fq1) (by show 3<35;omega) (st_ni HM2.out.tree) (fun S W h=>(st_callee fq1 hb) h))
 clear hq hp hk hb H1 X1 HK1 HM2
 go_wp2_with fail
 clear y2c f2c
 refine(H2.out (w2.setCell ⟨M,3,none⟩ (.string fq1)) (w2.heap.size) (by simp[World.setCell]) HL2.out.ps).mono ?_
 rintro e w3 hq
 obtain⟨⟨y2,rfl⟩,hp,hk⟩:=X2.out _ _ _ hq
 have HL3:=Lib.hid (HL2.out.step hk hp)
 clear hq hp hk H2 X2
 clear HL2
 go_wp2_with fail
 refine(H3.out w3 (w3.heap.size) (by simp[World.setCell]) HL3.out.ps).mono ?_
 rintro e w4 hq
 obtain⟨ra4,rc4,rfl,⟨rz4,y4c⟩,f4c,hfin⟩:=X3.out _ _ _ _ HL3.out hq
 have HL4:=Lib.hid hfin
 clear hq hfin H3 X3 HL3
 go_wp2_with fail
 clear y4c f4c
 refine(H4.out (w4.setCell ⟨M,30,none⟩ (.slice ra4 aq3.length rc4)) (w4.heap.size) (by simp[World.setCell]) HL4.out.ps).mono ?_
 rintro e w5 hq
 obtain⟨⟨y4,rfl⟩,hp,hk⟩:=X4.out _ _ _ hq
 have HL5:=Lib.hid (HL4.out.step hk hp)
 clear hq hp hk H4 X4
 clear HL4
 go_wp2_with fail
 refine(H5.out w5 (w5.heap.size) (by simp[World.setCell]) HL5.out.ps).mono ?_
 rintro e w6 hq
 obtain⟨ra6,rc6,rfl,⟨rz6,y6c⟩,f6c,hfin⟩:=X5.out _ _ _ _ HL5.out hq
 have HL6:=Lib.hid hfin
 clear hq hfin H5 X5 HL5
 go_wp2_with fail
 clear y6c f6c
 refine(H6.out (w6.setCell ⟨M,31,none⟩ (.slice ra6 gq5.length rc6)) (w6.heap.size) (by simp[World.setCell]) HL6.out.ps).mono ?_
 rintro e w7 hq
 obtain⟨⟨y6,rfl⟩,hp,hk⟩:=X6.out _ _ _ hq
 have HL7:=Lib.hid (HL6.out.step hk hp)
 clear hq hp hk H6 X6
 clear HL6
 go_wp2_with fail
 try go_end0
 exact HQ.out _ _ HL7.out
end
end Go.Proofs.YtcinokljkieijaaGreatDoor
