/- The document's clauses: of what has a variable of its own; of any formula. cnf.Make. cnf.Make: its walk. cnf.Make: its walk. -/
import Derived.Test.YtelndcmfddbgiaaDoorCs07
import Derived.Test.YtelndcmfddbgiaaDoorCs16
import Derived.Test.YtelndcmfddbgiaaDoorCs18
import Derived.Lib.QuietBelow
import Derived.BigQuiet
set_option linter.unusedVariables false
set_option linter.unusedSimpArgs false
set_option linter.unusedVariables false
set_option linter.unusedSimpArgs false
namespace Go.Proofs.YtelndcmfddbgiaaDoor
set_option maxRecDepth 100000
open Go.RowKit

set_option maxHeartbeats 16000000 in
theorem rmk_6 (am : List (Int × List (Int × Int))) (B K : Nat) (la : Option Addr) (lc : Nat) (hB : B ≤ K) (n : Nat) (IH : RMkSaid am B K la lc n) (f : FT) (cs : List Value) (N : Nat) (cl : List (List Int)) (S : Nat → Prop) (v : Value) (w : World) (h : FLies B w (n + 1) f cs) (hm : madeF (n + 1) f = true) (hl : Pak.Sits linSh (Pak.Lo K) w la am) (hv : CRow K S cl v w) (hK : K ≤ w.heap.size) (hb1 : am.length + N + siz (n + 1) f ≤ 100000) (hb2 : cl.length + 2 * siz (n + 1) f ≤ 1000000) (hk : f.kind = 6) :
    Calls Tryd.prog 28 #[.agg cs.toArray, .slice la am.length lc, .int .i64 N, v] w (RMEnd K (mkF am (n + 1) f N cl) S v w) := by
  obtain ⟨ta, tcap, ka, kcap, rfl, hT, hl1, hl2, hks⟩ := h
  rw [mkF_x ⟨by omega, by omega⟩, hk]
  have hA : Below w.heap.size w (w.alloc (.cells #[.int .i64 f.kind, .int .i64 f.c, .slice ta f.t.length tcap, .slice ka f.ks.length kcap] 27)) := (Below.refl _ w).alloc (Nat.le_refl _) _
  have HB := box_start w f.kind f.c ta ka f.t.length tcap f.ks.length kcap
  have HM := Lib.hid (made_kids hm)
  have HTF := Lib.hid (mkTo_fits am n f.ks N cl (made_kids hm))
  have HLZ := Lib.hid (len_siz n f.ks (made_kids hm) f.ks.length (Nat.le_refl _))
  have HI := Lib.hid IH
  have HK := Lib.hid hks
  have HA := Lib.hid hA
  have HBK := Lib.hid (And.intro hB hK)
  have HLS := Lib.hid hl
  have hsz := sizTo_len n f
  rw [hsz] at hb1 hb2
  have HB1 := Lib.hid hb1
  have HB2 := Lib.hid hb2
  have HBX := Lib.hid HB
  have hq1 : w.heap.size < (w.alloc (.cells #[.int .i64 f.kind, .int .i64 f.c, .slice ta f.t.length tcap, .slice ka f.ks.length kcap] 27)).heap.size := by simp
  have HQ1 := Lib.hid hq1
  have HQ : Hid (v.ownBlock ≠ some w.heap.size) := Lib.hid fun e => by have := (hv.lt _ e).2; omega
  have HVL := Lib.hid (fun q (e : v.ownBlock = some q) => (hv.lt q e).1)
  have HR1 := Lib.hid (KR.start (hv.below hA))
  have b0 := HB.c0
  have b3 := HB.c3
  obtain ⟨va, vc, hvf⟩ := hv.form
  rw [hk] at *
  clear IH hks hT hv hA HB hm hsz hb1 hb2 hB hq1 hl1 hK hl hk
  obtain ⟨cll, hcll⟩ : ∃ cll, cll = cl.length := ⟨_, rfl⟩
  obtain ⟨al, hal⟩ : ∃ al, al = am.length := ⟨_, rfl⟩
  rw [← hcll] at hvf HB2
  subst hvf
  have HAL := Lib.hid hal
  rw [← hal]
  rw [← hal] at HB1 HTF
  have HCLL := Lib.hid hcll
  clear hcll hal
  generalize f.c = fc at *
  generalize f.t.length = ft at *
  generalize hlen : f.ks.length = len at *
  have HLEN := Lib.hid hlen
  clear hlen
  go_enter Tryd.func28, Tryd.ntmps28
  go_wp2_with fail
  clear b0
  generalize w.alloc (.cells #[.int .i64 6, .int .i64 fc, .slice ta ft tcap, .slice ka len kcap] 27) = W1 at *
  go_loopw [2, 3, 14, 15] (fun m3 u3 o i wr => ∃ (k ol oc ul uc : Nat) (oa ua : Option Addr), i = .int .i64 k ∧ k ≤ len ∧ m3 = .int .i64 (mkTo am n f.ks N cl k).1 ∧ u3 = .slice ua ul uc ∧ o = .slice oa ol oc ∧ Hid (∃ S', KR K S W1 (.slice va cll vc) (mkTo am n f.ks N cl k).2.1 (mkTo am n f.ks N cl k).2.2 (.slice ua ul uc) S' (.slice oa ol oc) wr)) (fun _ _ _ i _ => len - (intOf i).toNat)
  case atStart => exact ⟨0, 0, 0, cll, vc, none, va, rfl, Nat.zero_le _, rfl, rfl, rfl, ⟨S, HR1.out⟩⟩
  case round =>
    clear HR1
    obtain ⟨k, ol, oc, ul, uc, oa, ua, rfl, hk, rfl, rfl, rfl, hS⟩ := hrel
    obtain ⟨S1, hKR⟩ := hS.out
    have HKR := Lib.hid hKR
    have hg := hKR.rt.2.1
    have hbk := HBK.out
    have hKW : K ≤ W1.heap.size := Nat.le_trans hbk.2 HA.out.size
    have hMw : Below K w wr := (HA.out.mono hbk.2).trans (grown_low hg hKW HVL.out)
    have HMW := Lib.hid hMw
    have HKW := Lib.hid hKW
    have hc := fun j => World.cell?_of_block (a := ⟨w.heap.size, j, none⟩) (hg.block w.heap.size HQ1.out (fun e => HQ.out e.symm))
    have x3 := (hc 3).trans b3
    have x0 := (hc 0).trans HBX.out.c0
    clear hg hMw hc hKR hS hKW
    by_cases hlt : k < len
    · have hlti : (k : Int) < (len : Int) := by omega
      have hkl : k < f.ks.length := by rw [HLEN.out]; exact hlt
      obtain ⟨b, off, c0, c1, c2, c3, rfl, hbl, g0, g1, g2, g3, hf⟩ := HK.out k hlt
      have hblM : b < K := by omega
      rw [← HMW.out.cell (p := ⟨b, _, none⟩) hblM] at g0 g1 g2 g3
      obtain ⟨ck, cc, cta, ctn, ctcap, cka, ckn, ckcap, rfl, rfl, rfl, rfl⟩ := hf.form
      have hmk := HM.out k hlt
      obtain ⟨⟨f1, f2, _⟩, f4, _⟩ := HTF.out k (Nat.le_of_lt hlt)
      have hs1 := sizTo_succ n f.ks k hkl
      have hs2 := sizTo_mono n f.ks (i := k + 1) (j := f.ks.length) hkl
      have hb1 := HB1.out
      have hb2 := HB2.out
      have hlz := HLZ.out
      have hl := HLEN.out
      have hal := HAL.out
      rw [hl] at hs2
      have hcl0 : cl.length ≤ cl.length := Nat.le_refl _
      have hih := HI.out (f.ks.getD k default) _ (mkTo am n f.ks N cl k).1 (mkTo am n f.ks N cl k).2.1 S1 (.slice ua ul uc) wr (hf.below (HMW.out.mono hbk.1)) hmk (HLS.out.up HMW.out) HKR.out.rt.1 (Nat.le_trans hbk.2 HMW.out.size) (by omega) (by have := HCLL.out; omega)
      rw [← hal] at hih
      have hfar := mkF_far (am := am) (n := n) (f := f.ks.getD k default) (N := (mkTo am n f.ks N cl k).1) (cl := (mkTo am n f.ks N cl k).2.1) hmk (by omega)
      have HSTEP := Lib.hid (fun cl3 v3 S3 w3 hS3 hR3 => HKR.out.step (Nat.le_trans hbk.2 HMW.out.size) (cl3 := cl3) (v3 := v3) (S3 := S3) (w3 := w3) hS3 hR3 (by omega) (x := (mkF am n (f.ks.getD k default) (mkTo am n f.ks N cl k).1 (mkTo am n f.ks N cl k).2.1).lit) (by omega))
      have HSU := Lib.hid (mkTo_succ am n f.ks N cl k hkl)
      have HIH := Lib.hid hih
      clear hmk f1 f2 f4 hs1 hs2 hb1 hb2 hlz hl hal hih hfar hf hbl hblM hbk hkl hcl0
      generalize mkF am n (f.ks.getD k default) (mkTo am n f.ks N cl k).1 (mkTo am n f.ks N cl k).2.1 = q at *
      go_wp2_with fail
      clear g0 g1 g2 g3 x0 x3
      refine HIH.out.mono ?_
      rintro e w3 ⟨v3, S3, rfl, hS3, hR3⟩
      obtain ⟨a4, n4, c4, w4, hr4, hk4⟩ := HSTEP.out _ _ S3 w3 hS3 hR3
      obtain ⟨a5, c5, e5⟩ := hR3.1.form
      generalize q.cl.length = n5 at e5
      subst e5
      have HK4 : Hid (∃ S', KR K S W1 (.slice va cll vc) (mkTo am n f.ks N cl (k + 1)).2.1 (mkTo am n f.ks N cl (k + 1)).2.2 (.slice a5 n5 c5) S' (.slice a4 n4 c4) w4) := Lib.hid ⟨S3, by rw [HSU.out]; exact hk4⟩
      have HN4 : Hid ((mkTo am n f.ks N cl (k + 1)).1 = q.n) := Lib.hid (by rw [HSU.out])
      clear hS3 hR3 hk4 HSTEP HIH HSU HKR
      go_wp2_with (at_builtin; refine Lib.wpList_append_run _ rfl _ _ _ _ rfl _ _ rfl rfl _ _ (hr4 _) ?_)
      go_roundw
      case rel => exact ⟨k + 1, n4, c4, n5, c5, a4, a5, by go_num, by omega, by rw [HN4.out], rfl, rfl, HK4⟩
      case measure => simp [intOf]; omega
    · have hlti : ¬ (k : Int) < (len : Int) := by omega
      obtain rfl : k = len := by omega
      obtain ⟨⟨f1, f2, _⟩, f4, f5⟩ := HTF.out k (Nat.le_refl _)
      have hb1 := HB1.out
      have hb2 := HB2.out
      have hlz := HLZ.out
      have HF5 := Lib.hid f5
      have hcc := HCLL.out
      obtain ⟨p, hpp⟩ : ∃ p, mkTo am n f.ks N cl k = p := ⟨_, rfl⟩
      have HPP := Lib.hid hpp
      have hsz1 : sizTo n f.ks k ≤ 100000 := by omega
      rw [hpp] at HKR f1 f2 f4 HF5 ⊢
      clear f5 hpp
      obtain ⟨m, hmm⟩ : ∃ m : Nat, m = p.1 + 1 := ⟨_, rfl⟩
      have hwm : IntKind.i64.wrap ((p.1 : Int) + 1) = (m : Int) := by rw [hmm]; exact IntWalk.i64_in _ (by omega)
      have hwn : IntKind.i64.wrap (-(m : Int)) = -(m : Int) := IntWalk.i64_in _ (by omega)
      have hmB : m ≤ 200000 := by omega
      have hclB : p.2.1.length ≤ 1000000 := by omega
      have hlitB : p.2.2.length ≤ 100000 := by omega
      have HXB : Hid (∀ x ∈ p.2.2, -1000000 ≤ x ∧ x ≤ 1000000) := Lib.hid fun x hx => by have := HF5.out x hx; omega
      have HMM := Lib.hid hmm
      have HEND := Lib.hid (fun (v6 : Value) (S6 : Nat → Prop) (w6 : World) (hs : ∀ b, S6 b → S b ∨ W1.heap.size ≤ b) (hR : CTo K S6 (p.2.1 ++ ownC 6 m p.2.2) (.slice va cll vc) W1 v6 w6) => (show RMEnd K ⟨m, p.2.1 ++ ownC 6 m p.2.2, m⟩ S (.slice va cll vc) w (.returned (.tuple #[v6, .int .i64 m, .int .i64 m])) w6 from ⟨v6, S6, rfl, fun b hb => (hs b hb).imp id (fun h => Nat.le_trans HA.out.size h), hR.before HA.out⟩))
      have HGO : Hid ((⟨p.1 + 1, p.2.1 ++ ownC 6 ((p.1 + 1 : Nat) : Int) p.2.2, ((p.1 + 1 : Nat) : Int)⟩ : MkR) = ⟨m, p.2.1 ++ ownC 6 m p.2.2, m⟩) := Lib.hid (by rw [hmm])
      rw [HGO.out]
      clear hmm HB1 HB2 HTF HLZ HK HM HI hb1 hb2 hlz f1 f2 HF5 hcc f4 HMW HLS HBK HQ HQ1 HBX hbk
      obtain ⟨ka2, kc2, eo, hJ⟩ := HKR.out.begin HKW.out hlitB (x := (-(m : Int))) (by omega)
      injection eo with eo1 eo2 eo3
      subst eo1 eo2 eo3
      have HJ : Hid (∃ S', JR K S W1 (.slice va cll vc) (p.2.1 ++ joinK (-(m : Int)) (-1) p.2.2 0) (.slice ua ul uc) S' (Value.slice oa p.2.2.length oc).ownBlock oa p.2.2 (lastK (-(m : Int)) (-1) p.2.2 0) (.slice (some ⟨wr.heap.size, 0, none⟩) 1 1) (wr.alloc (.cells #[.int .i64 (-(m : Int))] 3))) := Lib.hid ⟨S1, by simpa [joinK, lastK] using hJ⟩
      generalize (Value.slice oa p.2.2.length oc).ownBlock = ko at *
      obtain ⟨ln, hln⟩ : ∃ ln, ln = p.2.2.length := ⟨_, rfl⟩
      have HLN := Lib.hid hln
      rw [← hln] at hlitB ⊢
      clear hJ HKR hln
      go_wp2_with fail
      generalize wr.alloc (.cells #[.int .i64 (-(m : Int))] 3) = W3 at *
      go_loopw [3, 22, 23] (fun u3 o i wr => ∃ (j ol oc ul uc : Nat) (oa2 ua : Option Addr), i = .int .i64 j ∧ j ≤ ln ∧ u3 = .slice ua ul uc ∧ o = .slice oa2 ol oc ∧ Hid (∃ S', JR K S W1 (.slice va cll vc) (p.2.1 ++ joinK (-(m : Int)) (-1) p.2.2 j) (.slice ua ul uc) S' ko oa p.2.2 (lastK (-(m : Int)) (-1) p.2.2 j) (.slice oa2 ol oc) wr)) (fun _ _ i _ => ln - (intOf i).toNat)
      case atStart => exact ⟨0, 1, 1, ul, uc, _, ua, rfl, Nat.zero_le _, rfl, rfl, HJ⟩
      case round =>
        clear HJ
        obtain ⟨j, ol, oc, ul, uc, oa2, ua, rfl, hj, rfl, rfl, hS⟩ := hrel
        obtain ⟨S2, hJ⟩ := hS.out
        have HJ := Lib.hid hJ
        clear hS
        by_cases hjt : j < ln
        · have hjti : (j : Int) < (ln : Int) := by omega
          have hjl : j < p.2.2.length := by rw [← HLN.out]; exact hjt
          obtain ⟨b, off, us, hoa, hbk, hc, rfl, hi⟩ := hJ.kd.2 j hjl
          subst hoa
          have c1 := hc 0 _ rfl
          have ek : Pak.intSh.k = 1 := rfl
          rw [ek, Nat.mul_one, Nat.add_zero] at c1
          have hxb := HXB.out _ (List.getElem_mem hjl)
          have HJK := Lib.hid (joinK_6 (v := (m : Int)) hjl)
          have HLK := Lib.hid (lastK_6 (v := (m : Int)) hjl)
          clear hc hi ek
          have HX : Hid (∃ x, x = p.2.2[j]) := ⟨_, rfl⟩
          obtain ⟨x, hx⟩ := HX.out
          have HX : Hid (∀ h : j < p.2.2.length, p.2.2[j] = x) := Lib.hid fun _ => hx.symm
          rw [← hx] at c1 hxb HJK HLK
          clear hx
          have hwx : IntKind.i64.wrap (-x) = -x := IntWalk.i64_in _ (by omega)
          obtain ⟨a6, n6, c6, w6, hr6, hJ6⟩ := hJ.clause HKW.out (by rw [List.length_append, joinK_len (by omega)]; omega) [(m : Int), -x] (fun y hy => by
            rcases List.mem_cons.1 hy with rfl | hy
            · omega
            · rw [List.mem_singleton] at hy
              subst hy; omega) (by simp) 2 2 rfl
          have c2 : w6.cell? ⟨b, off + j, none⟩ = some (.int .i64 x) := by
            obtain ⟨b', off', us', e', _, hc', rfl, _⟩ := hJ6.kd.2 j hjl
            injection e' with e'
            injection e' with e1 e2 e3
            subst e1 e2
            have := hc' 0 _ rfl
            rw [show Pak.intSh.k = 1 from rfl, Nat.mul_one, Nat.add_zero] at this
            rw [this, HX.out hjl]
          obtain ⟨a7, n7, c7, w7, hr7, hJ7⟩ := hJ6.last HKW.out (by rw [lastK_len (by omega)]; omega) (x := x) (by omega)
          have HF : Hid (∃ S', JR K S W1 (.slice va cll vc) (p.2.1 ++ joinK (-(m : Int)) (-1) p.2.2 (j + 1)) (.slice a6 n6 c6) S' ko (some ⟨b, off, none⟩) p.2.2 (lastK (-(m : Int)) (-1) p.2.2 (j + 1)) (.slice a7 n7 c7) w7) := Lib.hid ⟨_, by rw [HJK.out, HLK.out, ← List.append_assoc]; exact hJ7⟩
          simp only [List.map_cons, List.map_nil] at hr6
          clear hJ hJ6 hJ7 HJ HJK HLK
          go_wp2_with (at_builtin; first | refine Lib.wpList_append_run _ rfl _ _ _ _ rfl _ _ rfl rfl _ _ (hr6 _) ?_ | refine Lib.wpList_append_run _ rfl _ _ _ _ rfl _ _ rfl rfl _ _ (hr7 _) ?_)
          go_roundw
          case rel => exact ⟨j + 1, n7, c7, n6, c6, a7, a6, by go_num, by omega, rfl, rfl, HF⟩
          case measure => simp [intOf]; omega
        · have hjti : ¬ (j : Int) < (ln : Int) := by omega
          obtain rfl : j = ln := by omega
          obtain ⟨oa9, oc9, e9, a6, n6, c6, w6, S6, hr6, hs6, hR6⟩ := hJ.end HKW.out (by rw [List.length_append, joinK_len (by rw [← HLN.out]; omega)]; omega) (by rw [lastK_len (by rw [← HLN.out]; omega)]; omega)
          injection e9 with e91 e92 e93
          rw [← e92, ← e91, ← e93] at hr6
          have HE := Lib.hid (HEND.out _ _ w6 hs6 (by rw [ownC_6, ← join_all, ← HLN.out, ← List.append_assoc]; exact hR6))
          clear hJ HJ hs6 hR6 HEND HXB e91 e92 e93 HLN
          go_wp2_with (at_builtin; refine Lib.wpList_append_run _ rfl _ _ _ _ rfl _ _ rfl rfl _ _ (hr6 _) ?_)
          go_ret3
          have e2 : (p.1 : Int) + 1 = (m : Int) := by rw [HMM.out]; rfl
          rw [HPP.out, e2, ← HMM.out]
          exact HE.out
end Go.Proofs.YtelndcmfddbgiaaDoor

set_option linter.unusedVariables false
set_option linter.unusedSimpArgs false
namespace Go.Proofs.YtelndcmfddbgiaaDoor
set_option maxRecDepth 100000
open Go.RowKit

/-! What Make answers. -/
def atomsF (n : Nat) (f : FT) : List (Int × List (Int × Int)) := gatF n f []
def makF (n : Nat) (f : FT) : MkR := mkF (atomsF n f) n f (atomsF n f).length []
def clsF (n : Nat) (f : FT) : List (List Int) := (makF n f).cl ++ [[(makF n f).lit]]
def cnfK (n : Nat) (f : FT) : Int := if isF n f = false then 5 else if 8192 < (makF n f).n ∨ Prp.chkK (makF n f).n (clsF n f) ≠ 0 then 2 else 0
/-- Atoms and clauses, in blocks of their own. -/
def CnfOk (n : Nat) (f : FT) (B : Nat) (w' : World) (av cv : Value) : Prop :=
  ∃ (K : Nat) (Sa Sc : Nat → Prop), B ≤ K ∧ K ≤ w'.heap.size ∧ OwnP linSh 24 B Sa (atomsF n f) av w' ∧ (∀ b, Sa b → B ≤ b ∧ b < K) ∧ (∀ q, av.ownBlock = some q → q < K) ∧ OwnP Pak.clauseSh 45 K Sc (clsF n f) cv w' ∧ (∀ b, Sc b → K ≤ b) ∧ (∀ b, (Sa b ∨ Sc b) → ∀ o, w'.frozen? ⟨b, o, none⟩ = false)
def CnfEnd (n : Nat) (f : FT) (w : World) (e : Ending) (w' : World) : Prop :=
  (cnfK n f ≠ 0 → e = .returned (.tuple #[.agg #[.int .i64 0, .slice none 0 0, .slice none 0 0], .iface 43 (.int .i64 (cnfK n f))])) ∧ (cnfK n f = 0 → ∃ av cv, e = .returned (.tuple #[.agg #[.int .i64 (makF n f).n, av, cv], .nilIface]) ∧ CnfOk n f w.heap.size w' av cv) ∧ Below w.heap.size w w'
/-- The cell of the result. -/
structure RC (W : World) (No : Nat) : Prop where
  r0 : W.cell? ⟨No, 0, none⟩ = some (.int .i64 0)
  r1 : W.cell? ⟨No, 1, none⟩ = some (.slice none 0 0)
  r2 : W.cell? ⟨No, 2, none⟩ = some (.slice none 0 0)
  fz : ∀ o, W.frozen? ⟨No, o, none⟩ = false
theorem RC.keep {W W' : World} {M : Nat} (h : RC W M) (hb : W'.heap[M]? = W.heap[M]?) : RC W' M := by
  have c := fun j => World.cell?_of_block (a := ⟨M, j, none⟩) hb
  exact ⟨(c 0).trans h.r0, (c 1).trans h.r1, (c 2).trans h.r2, fun o => (World.frozen?_of_block (a := ⟨M, o, none⟩) hb).trans (h.fz o)⟩
theorem rc_new (W : World) (N : Nat) (hN : W.heap.size = N) : RC (W.alloc (.cells #[.int .i64 0, .slice none 0 0, .slice none 0 0] 33)) N := by
  subst hN
  have hb := heap_alloc_new W (.cells #[.int .i64 0, .slice none 0 0, .slice none 0 0] 33)
  exact ⟨by rw [cell_of_row _ _ _ _ _ _ hb]; rfl, by rw [cell_of_row _ _ _ _ _ _ hb]; rfl, by rw [cell_of_row _ _ _ _ _ _ hb]; rfl, fun o => frozen_of_row _ _ _ _ _ hb⟩
theorem res3 {W : World} {No : Nat} (h : RC W No) (x0 x1 x2 : Value) :
    let W' := ((W.setCell ⟨No, 0, none⟩ x0).setCell ⟨No, 1, none⟩ x1).setCell ⟨No, 2, none⟩ x2
    W'.cell? ⟨No, 0, none⟩ = some x0 ∧ W'.cell? ⟨No, 1, none⟩ = some x1 ∧ W'.cell? ⟨No, 2, none⟩ = some x2 := by
  refine ⟨?_, ?_, ?_⟩
  · rw [World.cell?_setCell_other _ _ _ _ (by simp), World.cell?_setCell_other _ _ _ _ (by simp)]
    exact World.cell?_setCell_same _ _ _ h.r0
  · rw [World.cell?_setCell_other _ _ _ _ (by simp)]
    refine World.cell?_setCell_same _ _ _ (u := .slice none 0 0) ?_
    rw [World.cell?_setCell_other _ _ _ _ (by simp)]; exact h.r1
  · refine World.cell?_setCell_same _ _ _ (u := .slice none 0 0) ?_
    rw [World.cell?_setCell_other _ _ _ _ (by simp), World.cell?_setCell_other _ _ _ _ (by simp)]; exact h.r2
theorem below3 {w W : World} {B No : Nat} (h : Below B w W) (hB : B ≤ No) (x0 x1 x2 : Value) : Below B w (((W.setCell ⟨No, 0, none⟩ x0).setCell ⟨No, 1, none⟩ x1).setCell ⟨No, 2, none⟩ x2) :=
  ((h.setCell (p := ⟨No, 0, none⟩) hB _).setCell (p := ⟨No, 1, none⟩) hB _).setCell (p := ⟨No, 2, none⟩) hB _
theorem cnfOk_set {n : Nat} {f : FT} {B No : Nat} {W : World} {av cv : Value} (h : CnfOk n f B W av cv) (hN : No < B) (x0 x1 x2 : Value) : CnfOk n f B (((W.setCell ⟨No, 0, none⟩ x0).setCell ⟨No, 1, none⟩ x1).setCell ⟨No, 2, none⟩ x2) av cv := by
  obtain ⟨K, Sa, Sc, h1, h2, h3, h4, h5, h6, h7, h8⟩ := h
  have hsz : (((W.setCell ⟨No, 0, none⟩ x0).setCell ⟨No, 1, none⟩ x1).setCell ⟨No, 2, none⟩ x2).heap.size = W.heap.size := by simp [World.setCell]
  have hk : ∀ q, B ≤ q → (((W.setCell ⟨No, 0, none⟩ x0).setCell ⟨No, 1, none⟩ x1).setCell ⟨No, 2, none⟩ x2).heap[q]? = W.heap[q]? := fun q hq => by
    rw [Below.heap_setCell _ _ _ _ (show q ≠ No by omega), Below.heap_setCell _ _ _ _ (show q ≠ No by omega), Below.heap_setCell _ _ _ _ (show q ≠ No by omega)]
  refine ⟨K, Sa, Sc, h1, by rw [hsz]; exact h2, h3.keep (Nat.le_of_eq hsz.symm) (fun q hq => hk q ?_), h4, h5, h6.keep (Nat.le_of_eq hsz.symm) (fun q hq => hk q ?_), h7, fun b hb o => by rw [World.frozen?_setCell, World.frozen?_setCell, World.frozen?_setCell]; exact h8 b hb o⟩
  · rcases hq with hq | hq
    · exact (h4 q hq).1
    · exact (h3.lt q hq).1
  · rcases hq with hq | hq
    · exact Nat.le_trans h1 (h7 q hq)
    · exact Nat.le_trans h1 (h6.lt q hq).1
theorem cls_len {n : Nat} {f : FT} (h : isF n f = true) : 2 * (atomsF n f).length + siz n f ≤ 100000 ∧ (makF n f).n ≤ 60000 ∧ (clsF n f).length ≤ 60000 ∧ ∀ c ∈ clsF n f, c.length ≤ 60000 := by
  unfold isF at h
  simp only [Bool.and_eq_true, decide_eq_true_eq] at h
  obtain ⟨_, h1, h2⟩ := h
  have ha := gatF_le n f []
  have hf := (mkF_fits (atomsF n f) n f (atomsF n f).length [] h2).1
  have e : (atomsF n f).length ≤ siz n f := by have := ha.2; simp at this; exact this
  refine ⟨by omega, by have := hf.n; unfold makF; omega, ?_, fun c hc => ?_⟩
  · have := hf.c
    unfold clsF makF
    rw [List.length_append]
    simp at this ⊢
    omega
  · unfold clsF at hc
    rcases List.mem_append.1 hc with hc | hc
    · rcases hf.l c hc with h | h
      · cases h
      · omega
    · rw [List.mem_singleton] at hc
      subst hc
      simp
end Go.Proofs.YtelndcmfddbgiaaDoor

set_option linter.unusedVariables false
set_option linter.unusedSimpArgs false
namespace Go.Proofs.YtelndcmfddbgiaaDoor
set_option maxRecDepth 100000
open Go.RowKit

theorem GS.start {w : World} {mp : Nat} (hmp : w.heap.size = mp) : GS (mp + 1) (mp + 2) mp [] none (fun _ => False) ((w.alloc (.map #[] 0)).alloc (.cells #[.int .i64 0, .slice none 0 0, .slice none 0 0, .map (some mp)] 62)) := by
  subst hmp
  have hz : (w.alloc (.map #[] 0)).heap.size = w.heap.size + 1 := by simp
  have hn := heap_alloc_new (w.alloc (.map #[] 0)) (.cells #[.int .i64 0, .slice none 0 0, .slice none 0 0, .map (some w.heap.size)] 62)
  rw [hz] at hn
  have hA : Below (w.alloc (.map #[] 0)).heap.size (w.alloc (.map #[] 0)) ((w.alloc (.map #[] 0)).alloc (.cells #[.int .i64 0, .slice none 0 0, .slice none 0 0, .map (some w.heap.size)] 62)) := (Below.refl _ _).alloc (Nat.le_refl _) _
  refine ⟨(cell_of_row _ _ _ _ _ _ hn).trans rfl, ⟨_, (cell_of_row _ _ _ _ _ _ hn).trans rfl, rfl, OwnP.nil _ _ _ _⟩, (cell_of_row _ _ _ _ _ _ hn).trans rfl, (cell_of_row _ _ _ _ _ _ hn).trans rfl, fun b hb => hb.elim, fun j => frozen_of_row _ _ _ _ _ hn, ⟨Nat.lt_succ_self _, Nat.lt_succ_self _, by simp⟩, (Places.made w).keep (hA.block _ (by rw [hz]; exact Nat.lt_succ_self _)), fun b hb => hb.elim⟩
/-- The number of atoms is stored; the clauses begin. -/
theorem GS.begin {M K mp : Nat} {am : List (Int × List (Int × Int))} {r : Option Nat} {S : Nat → Prop} {w : World} {v : Value} (h : GS M K mp am r S w) (hv : w.cell? ⟨M, 1, none⟩ = some v) (N : Nat) :
    LS M w.heap.size mp v N [] none (fun _ => False) (w.setCell ⟨M, 0, none⟩ (.int .i64 N)) ∧ Places am mp (w.setCell ⟨M, 0, none⟩ (.int .i64 N)) := by
  have hl := h.lt
  have hsz : (w.setCell ⟨M, 0, none⟩ (.int .i64 N)).heap.size = w.heap.size := by simp [World.setCell]
  refine ⟨⟨World.cell?_setCell_same' _ _ _ (by rw [h.c0]; rfl), (World.cell?_setCell_other w ⟨M, 0, none⟩ ⟨M, 1, none⟩ _ (by simp)).trans hv, ⟨_, (World.cell?_setCell_other w ⟨M, 0, none⟩ ⟨M, 2, none⟩ _ (by simp)).trans h.c2, rfl, OwnP.nil _ _ _ _⟩, fun b hb => hb.elim, (World.cell?_setCell_other w ⟨M, 0, none⟩ ⟨M, 3, none⟩ _ (by simp)).trans h.c3, fun j => by rw [World.frozen?_setCell]; exact h.fz j, ⟨by omega, by rw [hsz]; exact Nat.le_refl _⟩, fun b hb => hb.elim⟩, h.pl.keep (Below.heap_setCell _ _ _ _ (show mp ≠ M by omega))⟩
theorem Tens.mono {B B' : Nat} {w w' : World} (h : Tens B w) (hb : Below B w w') : Tens B w' := h.up hb (Nat.le_refl _)
/-- What the walk knows behind the last clause. -/
structure MkEnd (n : Nat) (f : FT) (w W : World) (M : Nat) (av cv : Value) : Prop where
  ok : CnfOk n f (w.heap.size + 2) W av cv
  c0 : W.cell? ⟨M, 0, none⟩ = some (.int .i64 (makF n f).n)
  c1 : W.cell? ⟨M, 1, none⟩ = some av
  c2 : W.cell? ⟨M, 2, none⟩ = some cv
  rc : RC W (w.heap.size + 1)
  lt : w.heap.size + 2 < M ∧ M < W.heap.size
  bel : Below w.heap.size w W
theorem MkEnd.below {n : Nat} {f : FT} {w W W' : World} {M : Nat} {av cv : Value} (h : MkEnd n f w W M av cv) (hb : Below W.heap.size W W') : MkEnd n f w W' M av cv := by
  obtain ⟨K, Sa, Sc, h1, h2, h3, h4, h5, h6, h7, h8⟩ := h.ok
  have hl := h.lt
  have c := fun j => hb.cell (p := ⟨M, j, none⟩) hl.2
  exact ⟨⟨K, Sa, Sc, h1, Nat.le_trans h2 hb.size, h3.below hb, h4, h5, h6.below hb, h7, fun b hbb o => (World.frozen?_of_block (a := ⟨b, o, none⟩) (hb.block b (by
    rcases hbb with hbb | hbb
    · exact (h3.ok b hbb).1
    · exact (h6.ok b hbb).1))).trans (h8 b hbb o)⟩, (c 0).trans h.c0, (c 1).trans h.c1, (c 2).trans h.c2, h.rc.keep (hb.block _ (by omega)), ⟨hl.1, Nat.lt_of_lt_of_le hl.2 hb.size⟩, h.bel.trans (hb.mono h.bel.size)⟩
end Go.Proofs.YtelndcmfddbgiaaDoor

set_option linter.unusedVariables false
set_option linter.unusedSimpArgs false
namespace Go.Proofs.YtelndcmfddbgiaaDoor
set_option maxRecDepth 100000
open Go.RowKit

set_option maxHeartbeats 16000000 in
theorem make_no (n : Nat) (f : FT) (cs : List Value) (w : World) (h : FLies w.heap.size w (n + 1) f cs) (hi : isF (n + 1) f = false) :
    Calls Tryd.prog 9 #[.agg cs.toArray] w (CnfEnd (n + 1) f w) := by
  obtain ⟨ta, tcap, ka, kcap, rfl, h4, h5, h6, h7⟩ := h
  have hfl : FLies w.heap.size w (n + 1) f [.int .i64 f.kind, .int .i64 f.c, .slice ta f.t.length tcap, .slice ka f.ks.length kcap] := ⟨ta, tcap, ka, kcap, rfl, h4, h5, h6, h7⟩
  have HK : Hid (cnfK (n + 1) f = 5) := Lib.hid (by unfold cnfK; rw [if_pos hi])
  have hA : Below w.heap.size w (w.alloc (.cells #[.int .i64 f.kind, .int .i64 f.c, .slice ta f.t.length tcap, .slice ka f.ks.length kcap] 27)) := (Below.refl _ w).alloc (Nat.le_refl _) _
  have HB := box_start w f.kind f.c ta ka f.t.length tcap f.ks.length kcap
  have hA2 : Below (w.alloc (.cells #[.int .i64 f.kind, .int .i64 f.c, .slice ta f.t.length tcap, .slice ka f.ks.length kcap] 27)).heap.size (w.alloc (.cells #[.int .i64 f.kind, .int .i64 f.c, .slice ta f.t.length tcap, .slice ka f.ks.length kcap] 27)) ((w.alloc (.cells #[.int .i64 f.kind, .int .i64 f.c, .slice ta f.t.length tcap, .slice ka f.ks.length kcap] 27)).alloc (.cells #[.int .i64 0, .slice none 0 0, .slice none 0 0] 33)) := (Below.refl _ _).alloc (Nat.le_refl _) _
  have hz1 : (w.alloc (.cells #[.int .i64 f.kind, .int .i64 f.c, .slice ta f.t.length tcap, .slice ka f.ks.length kcap] 27)).heap.size = w.heap.size + 1 := by simp
  have hrc := rc_new (w.alloc (.cells #[.int .i64 f.kind, .int .i64 f.c, .slice ta f.t.length tcap, .slice ka f.ks.length kcap] 27)) (w.heap.size + 1) hz1
  have hAA := hA.trans (hA2.mono hA.size)
  have hz2 : ((w.alloc (.cells #[.int .i64 f.kind, .int .i64 f.c, .slice ta f.t.length tcap, .slice ka f.ks.length kcap] 27)).alloc (.cells #[.int .i64 0, .slice none 0 0, .slice none 0 0] 33)).heap.size = w.heap.size + 2 := by simp
  have HIS := Lib.hid (nis_any (n + 1) f _ _ ((hfl.below hAA).mono hAA.size))
  rw [hi] at HIS
  have hbx := fun j => hA2.cell (p := ⟨w.heap.size, j, none⟩) (show w.heap.size < _ by rw [hz1]; omega)
  have b0 := (hbx 0).trans HB.c0
  have b1 := (hbx 1).trans HB.c1
  have b2 := (hbx 2).trans HB.c2
  have b3 := (hbx 3).trans HB.c3
  have HZ2 := Lib.hid hz2
  have HRC := Lib.hid hrc
  have HAA := Lib.hid hAA
  unfold CnfEnd
  rw [HK.out]
  clear HK hA HB hA2 hz1 hz2 hrc hAA hbx hfl h4 h7 hi
  generalize f.kind = fk at *
  generalize f.c = fc at *
  generalize f.t.length = ft at *
  generalize f.ks.length = fl at *
  go_enter Tryd.func9, Tryd.ntmps9
  go_wp2_with fail
  generalize (w.alloc (.cells #[.int .i64 fk, .int .i64 fc, .slice ta ft tcap, .slice ka fl kcap] 27)).alloc (.cells #[.int .i64 0, .slice none 0 0, .slice none 0 0] 33) = W2 at *
  refine HIS.out.mono ?_
  rintro e w3 ⟨rfl, hb3⟩
  have hr3 := HRC.out.keep (hb3.block (w.heap.size + 1) (by rw [HZ2.out]; omega))
  have HR3 := Lib.hid hr3
  have HB3 := Lib.hid (HAA.out.trans (hb3.mono HAA.out.size))
  clear hb3 hr3 b0 b1 b2 b3
  obtain ⟨r0, r1, r2, rf⟩ := HR3.out
  go_wp2_with fail
  clear r0 r1 r2 rf
  refine bodyPost_ret (v := .tuple #[.agg #[.int .i64 0, .slice none 0 0, .slice none 0 0], .iface 43 (.int .i64 5)]) ?_ rfl ⟨fun _ => rfl, fun h => absurd h (by decide), below3 HB3.out (Nat.le_succ _) _ _ _⟩
  obtain ⟨e0, e1, e2⟩ := res3 HR3.out (.int .i64 0) (.slice none 0 0) (.slice none 0 0)
  simp [results, Tryd.results9, go_sem, e0, e1, e2]
end Go.Proofs.YtelndcmfddbgiaaDoor
