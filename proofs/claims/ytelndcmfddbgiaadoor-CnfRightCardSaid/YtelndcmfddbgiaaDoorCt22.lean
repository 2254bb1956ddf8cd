/- The document's clauses: of what has a variable of its own; of any formula. The document's clauses: of what has a variable of its own; of any formula. -/
import Derived.Test.YtelndcmfddbgiaaDoorCt20
set_option linter.unusedVariables false
set_option linter.unusedSimpArgs false
set_option linter.unusedVariables false
set_option linter.unusedSimpArgs false
namespace Go.Proofs.YtelndcmfddbgiaaDoor
set_option maxRecDepth 100000
open Go.RowKit

set_option maxHeartbeats 16000000 in
theorem rmk_5 (am : List (Int × List (Int × Int))) (B K : Nat) (la : Option Addr) (lc : Nat) (hB : B ≤ K) (n : Nat) (IH : RMkSaid am B K la lc n) (f : FT) (cs : List Value) (N : Nat) (cl : List (List Int)) (S : Nat → Prop) (v : Value) (w : World) (h : FLies B w (n + 1) f cs) (hm : madeF (n + 1) f = true) (hl : Pak.Sits linSh (Pak.Lo K) w la am) (hv : CRow K S cl v w) (hK : K ≤ w.heap.size) (hb1 : am.length + N + siz (n + 1) f ≤ 100000) (hb2 : cl.length + 2 * siz (n + 1) f ≤ 1000000) (hk : f.kind = 5) :
    Calls Tryd.prog 28 #[.agg cs.toArray, .slice la am.length lc, .int .i64 N, v] w (RMEnd K (mkF am (n + 1) f N cl) S v w) := by
  obtain ⟨ta, tcap, ka, kcap, rfl, hT, hl1, hl2, hks⟩ := h
  rw [mkF_x ⟨by omega, by omega⟩, hk]
  have hA : Below w.heap.size w (w.alloc (.cells #[.int .i64 f.kind, .int .i64 f.c, .slice ta f.t.length tcap, .slice ka f.ks.length kcap] 27)) := (Below.refl _ w).alloc (Nat.le_refl _) _
  have HB := box_start w f.kind f.c ta ka f.t.length tcap f.ks.length kcap
  have HM := Lib.hid (made_kids hm)
  have HTF := Lib.hid (mkTo_fits am n f.ks N cl (made_kids hm))
  have HLZ := Lib.hid (len_siz n f.ks (made_kids hm) f.ks.length (Nat.le_refl _))
  have HI := Lib.hid IH
  have HK := Lib.hid hks
  have HA := Lib.hid hA
  have HBK := Lib.hid (And.intro hB hK)
  have HLS := Lib.hid hl
  have hsz := sizTo_len n f
  rw [hsz] at hb1 hb2
  have HB1 := Lib.hid hb1
  have HB2 := Lib.hid hb2
  have HBX := Lib.hid HB
  have hq1 : w.heap.size < (w.alloc (.cells #[.int .i64 f.kind, .int .i64 f.c, .slice ta f.t.length tcap, .slice ka f.ks.length kcap] 27)).heap.size := by simp
  have HQ1 := Lib.hid hq1
  have HQ : Hid (v.ownBlock ≠ some w.heap.size) := Lib.hid fun e => by have := (hv.lt _ e).2; omega
  have HVL := Lib.hid (fun q (e : v.ownBlock = some q) => (hv.lt q e).1)
  have HR1 := Lib.hid (KR.start (hv.below hA))
  have b0 := HB.c0
  have b3 := HB.c3
  obtain ⟨va, vc, hvf⟩ := hv.form
  rw [hk] at *
  clear IH hks hT hv hA HB hm hsz hb1 hb2 hB hq1 hl1 hK hl hk
  obtain ⟨cll, hcll⟩ : ∃ cll, cll = cl.length := ⟨_, rfl⟩
  obtain ⟨al, hal⟩ : ∃ al, al = am.length := ⟨_, rfl⟩
  rw [← hcll] at hvf HB2
  subst hvf
  have HAL := Lib.hid hal
  rw [← hal]
  rw [← hal] at HB1 HTF
  have HCLL := Lib.hid hcll
  clear hcll hal
  generalize f.c = fc at *
  generalize f.t.length = ft at *
  generalize hlen : f.ks.length = len at *
  have HLEN := Lib.hid hlen
  clear hlen
  go_enter Tryd.func28, Tryd.ntmps28
  go_wp2_with fail
  clear b0
  generalize w.alloc (.cells #[.int .i64 5, .int .i64 fc, .slice ta ft tcap, .slice ka len kcap] 27) = W1 at *
  go_loopw [2, 3, 14, 15] (fun m3 u3 o i wr => ∃ (k ol oc ul uc : Nat) (oa ua : Option Addr), i = .int .i64 k ∧ k ≤ len ∧ m3 = .int .i64 (mkTo am n f.ks N cl k).1 ∧ u3 = .slice ua ul uc ∧ o = .slice oa ol oc ∧ Hid (∃ S', KR K S W1 (.slice va cll vc) (mkTo am n f.ks N cl k).2.1 (mkTo am n f.ks N cl k).2.2 (.slice ua ul uc) S' (.slice oa ol oc) wr)) (fun _ _ _ i _ => len - (intOf i).toNat)
  case atStart => exact ⟨0, 0, 0, cll, vc, none, va, rfl, Nat.zero_le _, rfl, rfl, rfl, ⟨S, HR1.out⟩⟩
  case round =>
    clear HR1
    obtain ⟨k, ol, oc, ul, uc, oa, ua, rfl, hk, rfl, rfl, rfl, hS⟩ := hrel
    obtain ⟨S1, hKR⟩ := hS.out
    have HKR := Lib.hid hKR
    have hg := hKR.rt.2.1
    have hbk := HBK.out
    have hKW : K ≤ W1.heap.size := Nat.le_trans hbk.2 HA.out.size
    have hMw : Below K w wr := (HA.out.mono hbk.2).trans (grown_low hg hKW HVL.out)
    have HMW := Lib.hid hMw
    have HKW := Lib.hid hKW
    have hc := fun j => World.cell?_of_block (a := ⟨w.heap.size, j, none⟩) (hg.block w.heap.size HQ1.out (fun e => HQ.out e.symm))
    have x3 := (hc 3).trans b3
    have x0 := (hc 0).trans HBX.out.c0
    clear hg hMw hc hKR hS hKW
    by_cases hlt : k < len
    · have hlti : (k : Int) < (len : Int) := by omega
      have hkl : k < f.ks.length := by rw [HLEN.out]; exact hlt
      obtain ⟨b, off, c0, c1, c2, c3, rfl, hbl, g0, g1, g2, g3, hf⟩ := HK.out k hlt
      have hblM : b < K := by omega
      rw [← HMW.out.cell (p := ⟨b, _, none⟩) hblM] at g0 g1 g2 g3
      obtain ⟨ck, cc, cta, ctn, ctcap, cka, ckn, ckcap, rfl, rfl, rfl, rfl⟩ := hf.form
      have hmk := HM.out k hlt
      obtain ⟨⟨f1, f2, _⟩, f4, _⟩ := HTF.out k (Nat.le_of_lt hlt)
      have hs1 := sizTo_succ n f.ks k hkl
      have hs2 := sizTo_mono n f.ks (i := k + 1) (j := f.ks.length) hkl
      have hb1 := HB1.out
      have hb2 := HB2.out
      have hlz := HLZ.out
      have hl := HLEN.out
      have hal := HAL.out
      rw [hl] at hs2
      have hcl0 : cl.length ≤ cl.length := Nat.le_refl _
      have hih := HI.out (f.ks.getD k default) _ (mkTo am n f.ks N cl k).1 (mkTo am n f.ks N cl k).2.1 S1 (.slice ua ul uc) wr (hf.below (HMW.out.mono hbk.1)) hmk (HLS.out.up HMW.out) HKR.out.rt.1 (Nat.le_trans hbk.2 HMW.out.size) (by omega) (by have := HCLL.out; omega)
      rw [← hal] at hih
      have hfar := mkF_far (am := am) (n := n) (f := f.ks.getD k default) (N := (mkTo am n f.ks N cl k).1) (cl := (mkTo am n f.ks N cl k).2.1) hmk (by omega)
      have HSTEP := Lib.hid (fun cl3 v3 S3 w3 hS3 hR3 => HKR.out.step (Nat.le_trans hbk.2 HMW.out.size) (cl3 := cl3) (v3 := v3) (S3 := S3) (w3 := w3) hS3 hR3 (by omega) (x := (mkF am n (f.ks.getD k default) (mkTo am n f.ks N cl k).1 (mkTo am n f.ks N cl k).2.1).lit) (by omega))
      have HSU := Lib.hid (mkTo_succ am n f.ks N cl k hkl)
      have HIH := Lib.hid hih
      clear hmk f1 f2 f4 hs1 hs2 hb1 hb2 hlz hl hal hih hfar hf hbl hblM hbk hkl hcl0
      generalize mkF am n (f.ks.getD k default) (mkTo am n f.ks N cl k).1 (mkTo am n f.ks N cl k).2.1 = q at *
      go_wp2_with fail
      clear g0 g1 g2 g3 x0 x3
      refine HIH.out.mono ?_
      rintro e w3 ⟨v3, S3, rfl, hS3, hR3⟩
      obtain ⟨a4, n4, c4, w4, hr4, hk4⟩ := HSTEP.out _ _ S3 w3 hS3 hR3
      obtain ⟨a5, c5, e5⟩ := hR3.1.form
      generalize q.cl.length = n5 at e5
      subst e5
      have HK4 : Hid (∃ S', KR K S W1 (.slice va cll vc) (mkTo am n f.ks N cl (k + 1)).2.1 (mkTo am n f.ks N cl (k + 1)).2.2 (.slice a5 n5 c5) S' (.slice a4 n4 c4) w4) := Lib.hid ⟨S3, by rw [HSU.out]; exact hk4⟩
      have HN4 : Hid ((mkTo am n f.ks N cl (k + 1)).1 = q.n) := Lib.hid (by rw [HSU.out])
      clear hS3 hR3 hk4 HSTEP HIH HSU HKR
      go_wp2_with (at_builtin; refine Lib.wpList_append_run _ rfl _ _ _ _ rfl _ _ rfl rfl _ _ (hr4 _) ?_)
      go_roundw
      case rel => exact ⟨k + 1, n4, c4, n5, c5, a4, a5, by go_num, by omega, by rw [HN4.out], rfl, rfl, HK4⟩
      case measure => simp [intOf]; omega
    · have hlti : ¬ (k : Int) < (len : Int) := by omega
      obtain rfl : k = len := by omega
      obtain ⟨⟨f1, f2, _⟩, f4, f5⟩ := HTF.out k (Nat.le_refl _)
      have hb1 := HB1.out
      have hb2 := HB2.out
      have hlz := HLZ.out
      have HF5 := Lib.hid f5
      have hcc := HCLL.out
      obtain ⟨p, hpp⟩ : ∃ p, mkTo am n f.ks N cl k = p := ⟨_, rfl⟩
      have HPP := Lib.hid hpp
      have hsz1 : sizTo n f.ks k ≤ 100000 := by omega
      rw [hpp] at HKR f1 f2 f4 HF5 ⊢
      clear f5 hpp
      obtain ⟨m, hmm⟩ : ∃ m : Nat, m = p.1 + 1 := ⟨_, rfl⟩
      have hwm : IntKind.i64.wrap ((p.1 : Int) + 1) = (m : Int) := by rw [hmm]; exact IntWalk.i64_in _ (by omega)
      have hwn : IntKind.i64.wrap (-(m : Int)) = -(m : Int) := IntWalk.i64_in _ (by omega)
      have hmB : m ≤ 200000 := by omega
      have hclB : p.2.1.length ≤ 1000000 := by omega
      have hlitB : p.2.2.length ≤ 100000 := by omega
      have HXB : Hid (∀ x ∈ p.2.2, -1000000 ≤ x ∧ x ≤ 1000000) := Lib.hid fun x hx => by have := HF5.out x hx; omega
      have HMM := Lib.hid hmm
      have HEND := Lib.hid (fun (v6 : Value) (S6 : Nat → Prop) (w6 : World) (hs : ∀ b, S6 b → S b ∨ W1.heap.size ≤ b) (hR : CTo K S6 (p.2.1 ++ ownC 5 m p.2.2) (.slice va cll vc) W1 v6 w6) => (show RMEnd K ⟨m, p.2.1 ++ ownC 5 m p.2.2, m⟩ S (.slice va cll vc) w (.returned (.tuple #[v6, .int .i64 m, .int .i64 m])) w6 from ⟨v6, S6, rfl, fun b hb => (hs b hb).imp id (fun h => Nat.le_trans HA.out.size h), hR.before HA.out⟩))
      have HGO : Hid ((⟨p.1 + 1, p.2.1 ++ ownC 5 ((p.1 + 1 : Nat) : Int) p.2.2, ((p.1 + 1 : Nat) : Int)⟩ : MkR) = ⟨m, p.2.1 ++ ownC 5 m p.2.2, m⟩) := Lib.hid (by rw [hmm])
      rw [HGO.out]
      clear hmm HB1 HB2 HTF HLZ HK HM HI hb1 hb2 hlz f1 f2 HF5 hcc f4 HMW HLS HBK HQ HQ1 HBX hbk
      obtain ⟨ka2, kc2, eo, hJ⟩ := HKR.out.begin HKW.out hlitB (x := (m : Int)) (by omega)
      injection eo with eo1 eo2 eo3
      subst eo1 eo2 eo3
      have HJ : Hid (∃ S', JR K S W1 (.slice va cll vc) (p.2.1 ++ joinK (m : Int) 1 p.2.2 0) (.slice ua ul uc) S' (Value.slice oa p.2.2.length oc).ownBlock oa p.2.2 (lastK (m : Int) 1 p.2.2 0) (.slice (some ⟨wr.heap.size, 0, none⟩) 1 1) (wr.alloc (.cells #[.int .i64 (m : Int)] 3))) := Lib.hid ⟨S1, by simpa [joinK, lastK] using hJ⟩
      generalize (Value.slice oa p.2.2.length oc).ownBlock = ko at *
      obtain ⟨ln, hln⟩ : ∃ ln, ln = p.2.2.length := ⟨_, rfl⟩
      have HLN := Lib.hid hln
      rw [← hln] at hlitB ⊢
      clear hJ HKR hln
      go_wp2_with fail
      generalize wr.alloc (.cells #[.int .i64 (m : Int)] 3) = W3 at *
      go_loopw [3, 20, 21] (fun u3 o i wr => ∃ (j ol oc ul uc : Nat) (oa2 ua : Option Addr), i = .int .i64 j ∧ j ≤ ln ∧ u3 = .slice ua ul uc ∧ o = .slice oa2 ol oc ∧ Hid (∃ S', JR K S W1 (.slice va cll vc) (p.2.1 ++ joinK (m : Int) 1 p.2.2 j) (.slice ua ul uc) S' ko oa p.2.2 (lastK (m : Int) 1 p.2.2 j) (.slice oa2 ol oc) wr)) (fun _ _ i _ => ln - (intOf i).toNat)
      case atStart => exact ⟨0, 1, 1, ul, uc, _, ua, rfl, Nat.zero_le _, rfl, rfl, HJ⟩
      case round =>
        clear HJ
        obtain ⟨j, ol, oc, ul, uc, oa2, ua, rfl, hj, rfl, rfl, hS⟩ := hrel
        obtain ⟨S2, hJ⟩ := hS.out
        have HJ := Lib.hid hJ
        clear hS
        by_cases hjt : j < ln
        · have hjti : (j : Int) < (ln : Int) := by omega
          have hjl : j < p.2.2.length := by rw [← HLN.out]; exact hjt
          obtain ⟨b, off, us, hoa, hbk, hc, rfl, hi⟩ := hJ.kd.2 j hjl
          subst hoa
          have c1 := hc 0 _ rfl
          have ek : Pak.intSh.k = 1 := rfl
          rw [ek, Nat.mul_one, Nat.add_zero] at c1
          have hxb := HXB.out _ (List.getElem_mem hjl)
          have HJK := Lib.hid (joinK_5 (v := (m : Int)) hjl)
          have HLK := Lib.hid (lastK_5 (v := (m : Int)) hjl)
          clear hc hi ek
          have HX : Hid (∃ x, x = p.2.2[j]) := ⟨_, rfl⟩
          obtain ⟨x, hx⟩ := HX.out
          have HX : Hid (∀ h : j < p.2.2.length, p.2.2[j] = x) := Lib.hid fun _ => hx.symm
          rw [← hx] at c1 hxb HJK HLK
          clear hx
          have hwx : IntKind.i64.wrap (-x) = -x := IntWalk.i64_in _ (by omega)
          obtain ⟨a6, n6, c6, w6, hr6, hJ6⟩ := hJ.clause HKW.out (by rw [List.length_append, joinK_len (by omega)]; omega) [-(m : Int), x] (fun y hy => by
            rcases List.mem_cons.1 hy with rfl | hy
            · omega
            · rw [List.mem_singleton] at hy
              subst hy; omega) (by simp) 2 2 rfl
          have c2 : w6.cell? ⟨b, off + j, none⟩ = some (.int .i64 x) := by
            obtain ⟨b', off', us', e', _, hc', rfl, _⟩ := hJ6.kd.2 j hjl
            injection e' with e'
            injection e' with e1 e2 e3
            subst e1 e2
            have := hc' 0 _ rfl
            rw [show Pak.intSh.k = 1 from rfl, Nat.mul_one, Nat.add_zero] at this
            rw [this, HX.out hjl]
          obtain ⟨a7, n7, c7, w7, hr7, hJ7⟩ := hJ6.last HKW.out (by rw [lastK_len (by omega)]; omega) (x := (-x)) (by omega)
          have HF : Hid (∃ S', JR K S W1 (.slice va cll vc) (p.2.1 ++ joinK (m : Int) 1 p.2.2 (j + 1)) (.slice a6 n6 c6) S' ko (some ⟨b, off, none⟩) p.2.2 (lastK (m : Int) 1 p.2.2 (j + 1)) (.slice a7 n7 c7) w7) := Lib.hid ⟨_, by rw [HJK.out, HLK.out, ← List.append_assoc]; exact hJ7⟩
          simp only [List.map_cons, List.map_nil] at hr6
          clear hJ hJ6 hJ7 HJ HJK HLK
          go_wp2_with (at_builtin; first | refine Lib.wpList_append_run _ rfl _ _ _ _ rfl _ _ rfl rfl _ _ (hr6 _) ?_ | refine Lib.wpList_append_run _ rfl _ _ _ _ rfl _ _ rfl rfl _ _ (hr7 _) ?_)
          go_roundw
          case rel => exact ⟨j + 1, n7, c7, n6, c6, a7, a6, by go_num, by omega, rfl, rfl, HF⟩
          case measure => simp [intOf]; omega
        · have hjti : ¬ (j : Int) < (ln : Int) := by omega
          obtain rfl : j = ln := by omega
          obtain ⟨oa9, oc9, e9, a6, n6, c6, w6, S6, hr6, hs6, hR6⟩ := hJ.end HKW.out (by rw [List.length_append, joinK_len (by rw [← HLN.out]; omega)]; omega) (by rw [lastK_len (by rw [← HLN.out]; omega)]; omega)
          injection e9 with e91 e92 e93
          rw [← e92, ← e91, ← e93] at hr6
          have HE := Lib.hid (HEND.out _ _ w6 hs6 (by rw [ownC_5, ← join_all, ← HLN.out, ← List.append_assoc]; exact hR6))
          clear hJ HJ hs6 hR6 HEND HXB e91 e92 e93 HLN
          go_wp2_with (at_builtin; refine Lib.wpList_append_run _ rfl _ _ _ _ rfl _ _ rfl rfl _ _ (hr6 _) ?_)
          go_ret3
          have e2 : (p.1 : Int) + 1 = (m : Int) := by rw [HMM.out]; rfl
          rw [HPP.out, e2, ← HMM.out]
          exact HE.out
end Go.Proofs.YtelndcmfddbgiaaDoor

set_option linter.unusedVariables false
set_option linter.unusedSimpArgs false
namespace Go.Proofs.YtelndcmfddbgiaaDoor
set_option maxRecDepth 100000
open Go.RowKit

set_option maxHeartbeats 16000000 in
theorem rmk_6 (am : List (Int × List (Int × Int))) (B K : Nat) (la : Option Addr) (lc : Nat) (hB : B ≤ K) (n : Nat) (IH : RMkSaid am B K la lc n) (f : FT) (cs : List Value) (N : Nat) (cl : List (List Int)) (S : Nat → Prop) (v : Value) (w : World) (h : FLies B w (n + 1) f cs) (hm : madeF (n + 1) f = true) (hl : Pak.Sits linSh (Pak.Lo K) w la am) (hv : CRow K S cl v w) (hK : K ≤ w.heap.size) (hb1 : am.length + N + siz (n + 1) f ≤ 100000) (hb2 : cl.length + 2 * siz (n + 1) f ≤ 1000000) (hk : f.kind = 6) :
    Calls Tryd.prog 28 #[.agg cs.toArray, .slice la am.length lc, .int .i64 N, v] w (RMEnd K (mkF am (n + 1) f N cl) S v w) := by
  obtain ⟨ta, tcap, ka, kcap, rfl, hT, hl1, hl2, hks⟩ := h
  rw [mkF_x ⟨by omega, by omega⟩, hk]
  have hA : Below w.heap.size w (w.alloc (.cells #[.int .i64 f.kind, .int .i64 f.c, .slice ta f.t.length tcap, .slice ka f.ks.length kcap] 27)) := (Below.refl _ w).alloc (Nat.le_refl _) _
  have HB := box_start w f.kind f.c ta ka f.t.length tcap f.ks.length kcap
  have HM := Lib.hid (made_kids hm)
  have HTF := Lib.hid (mkTo_fits am n f.ks N cl (made_kids hm))
  have HLZ := Lib.hid (len_siz n f.ks (made_kids hm) f.ks.length (Nat.le_refl _))
  have HI := Lib.hid IH
  have HK := Lib.hid hks
  have HA := Lib.hid hA
  have HBK := Lib.hid (And.intro hB hK)
  have HLS := Lib.hid hl
  have hsz := sizTo_len n f
  rw [hsz] at hb1 hb2
  have HB1 := Lib.hid hb1
  have HB2 := Lib.hid hb2
  have HBX := Lib.hid HB
  have hq1 : w.heap.size < (w.alloc (.cells #[.int .i64 f.kind, .int .i64 f.c, .slice ta f.t.length tcap, .slice ka f.ks.length kcap] 27)).heap.size := by simp
  have HQ1 := Lib.hid hq1
  have HQ : Hid (v.ownBlock ≠ some w.heap.size) := Lib.hid fun e => by have := (hv.lt _ e).2; omega
  have HVL := Lib.hid (fun q (e : v.ownBlock = some q) => (hv.lt q e).1)
  have HR1 := Lib.hid (KR.start (hv.below hA))
  have b0 := HB.c0
  have b3 := HB.c3
  obtain ⟨va, vc, hvf⟩ := hv.form
  rw [hk] at *
  clear IH hks hT hv hA HB hm hsz hb1 hb2 hB hq1 hl1 hK hl hk
  obtain ⟨cll, hcll⟩ : ∃ cll, cll = cl.length := ⟨_, rfl⟩
  obtain ⟨al, hal⟩ : ∃ al, al = am.length := ⟨_, rfl⟩
  rw [← hcll] at hvf HB2
  subst hvf
  have HAL := Lib.hid hal
  rw [← hal]
  rw [← hal] at HB1 HTF
  have HCLL := Lib.hid hcll
  clear hcll hal
  generalize f.c = fc at *
  generalize f.t.length = ft at *
  generalize hlen : f.ks.length = len at *
  have HLEN := Lib.hid hlen
  clear hlen
  go_enter Tryd.func28, Tryd.ntmps28
  go_wp2_with fail
  clear b0
  generalize w.alloc (.cells #[.int .i64 6, .int .i64 fc, .slice ta ft tcap, .slice ka len kcap] 27) = W1 at *
  go_loopw [2, 3, 14, 15] (fun m3 u3 o i wr => ∃ (k ol oc ul uc : Nat) (oa ua : Option Addr), i = .int .i64 k ∧ k ≤ len ∧ m3 = .int .i64 (mkTo am n f.ks N cl k).1 ∧ u3 = .slice ua ul uc ∧ o = .slice oa ol oc ∧ Hid (∃ S', KR K S W1 (.slice va cll vc) (mkTo am n f.ks N cl k).2.1 (mkTo am n f.ks N cl k).2.2 (.slice ua ul uc) S' (.slice oa ol oc) wr)) (fun _ _ _ i _ => len - (intOf i).toNat)
  case atStart => exact ⟨0, 0, 0, cll, vc, none, va, rfl, Nat.zero_le _, rfl, rfl, rfl, ⟨S, HR1.out⟩⟩
  case round =>
    clear HR1
    obtain ⟨k, ol, oc, ul, uc, oa, ua, rfl, hk, rfl, rfl, rfl, hS⟩ := hrel
    obtain ⟨S1, hKR⟩ := hS.out
    have HKR := Lib.hid hKR
    have hg := hKR.rt.2.1
    have hbk := HBK.out
    have hKW : K ≤ W1.heap.size := Nat.le_trans hbk.2 HA.out.size
    have hMw : Below K w wr := (HA.out.mono hbk.2).trans (grown_low hg hKW HVL.out)
    have HMW := Lib.hid hMw
    have HKW := Lib.hid hKW
    have hc := fun j => World.cell?_of_block (a := ⟨w.heap.size, j, none⟩) (hg.block w.heap.size HQ1.out (fun e => HQ.out e.symm))
    have x3 := (hc 3).trans b3
    have x0 := (hc 0).trans HBX.out.c0
    clear hg hMw hc hKR hS hKW
    by_cases hlt : k < len
    · have hlti : (k : Int) < (len : Int) := by omega
      have hkl : k < f.ks.length := by rw [HLEN.out]; exact hlt
      obtain ⟨b, off, c0, c1, c2, c3, rfl, hbl, g0, g1, g2, g3, hf⟩ := HK.out k hlt
      have hblM : b < K := by omega
      rw [← HMW.out.cell (p := ⟨b, _, none⟩) hblM] at g0 g1 g2 g3
      obtain ⟨ck, cc, cta, ctn, ctcap, cka, ckn, ckcap, rfl, rfl, rfl, rfl⟩ := hf.form
      have hmk := HM.out k hlt
      obtain ⟨⟨f1, f2, _⟩, f4, _⟩ := HTF.out k (Nat.le_of_lt hlt)
      have hs1 := sizTo_succ n f.ks k hkl
      have hs2 := sizTo_mono n f.ks (i := k + 1) (j := f.ks.length) hkl
      have hb1 := HB1.out
      have hb2 := HB2.out
      have hlz := HLZ.out
      have hl := HLEN.out
      have hal := HAL.out
      rw [hl] at hs2
      have hcl0 : cl.length ≤ cl.length := Nat.le_refl _
      have hih := HI.out (f.ks.getD k default) _ (mkTo am n f.ks N cl k).1 (mkTo am n f.ks N cl k).2.1 S1 (.slice ua ul uc) wr (hf.below (HMW.out.mono hbk.1)) hmk (HLS.out.up HMW.out) HKR.out.rt.1 (Nat.le_trans hbk.2 HMW.out.size) (by omega) (by have := HCLL.out; omega)
      rw [← hal] at hih
      have hfar := mkF_far (am := am) (n := n) (f := f.ks.getD k default) (N := (mkTo am n f.ks N cl k).1) (cl := (mkTo am n f.ks N cl k).2.1) hmk (by omega)
      have HSTEP := Lib.hid (fun cl3 v3 S3 w3 hS3 hR3 => HKR.out.step (Nat.le_trans hbk.2 HMW.out.size) (cl3 := cl3) (v3 := v3) (S3 := S3) (w3 := w3) hS3 hR3 (by omega) (x := (mkF am n (f.ks.getD k default) (mkTo am n f.ks N cl k).1 (mkTo am n f.ks N cl k).2.1).lit) (by omega))
      have HSU := Lib.hid (mkTo_succ am n f.ks N cl k hkl)
      have HIH := Lib.hid hih
      clear hmk f1 f2 f4 hs1 hs2 hb1 hb2 hlz hl hal hih hfar hf hbl hblM hbk hkl hcl0
      generalize mkF am n (f.ks.getD k default) (mkTo am n f.ks N cl k).1 (mkTo am n f.ks N cl k).2.1 = q at *
      go_wp2_with fail
      clear g0 g1 g2 g3 x0 x3
      refine HIH.out.mono ?_
      rintro e w3 ⟨v3, S3, rfl, hS3, hR3⟩
      obtain ⟨a4, n4, c4, w4, hr4, hk4⟩ := HSTEP.out _ _ S3 w3 hS3 hR3
      obtain ⟨a5, c5, e5⟩ := hR3.1.form
      generalize q.cl.length = n5 at e5
      subst e5
      have HK4 : Hid (∃ S', KR K S W1 (.slice va cll vc) (mkTo am n f.ks N cl (k + 1)).2.1 (mkTo am n f.ks N cl (k + 1)).2.2 (.slice a5 n5 c5) S' (.slice a4 n4 c4) w4) := Lib.hid ⟨S3, by rw [HSU.out]; exact hk4⟩
      have HN4 : Hid ((mkTo am n f.ks N cl (k + 1)).1 = q.n) := Lib.hid (by rw [HSU.out])
      clear hS3 hR3 hk4 HSTEP HIH HSU HKR
      go_wp2_with (at_builtin; refine Lib.wpList_append_run _ rfl _ _ _ _ rfl _ _ rfl rfl _ _ (hr4 _) ?_)
      go_roundw
      case rel => exact ⟨k + 1, n4, c4, n5, c5, a4, a5, by go_num, by omega, by rw [HN4.out], rfl, rfl, HK4⟩
      case measure => simp [intOf]; omega
    · have hlti : ¬ (k : Int) < (len : Int) := by omega
      obtain rfl : k = len := by omega
      obtain ⟨⟨f1, f2, _⟩, f4, f5⟩ := HTF.out k (Nat.le_refl _)
      have hb1 := HB1.out
      have hb2 := HB2.out
      have hlz := HLZ.out
      have HF5 := Lib.hid f5
      have hcc := HCLL.out
      obtain ⟨p, hpp⟩ : ∃ p, mkTo am n f.ks N cl k = p := ⟨_, rfl⟩
      have HPP := Lib.hid hpp
      have hsz1 : sizTo n f.ks k ≤ 100000 := by omega
      rw [hpp] at HKR f1 f2 f4 HF5 ⊢
      clear f5 hpp
      obtain ⟨m, hmm⟩ : ∃ m : Nat, m = p.1 + 1 := ⟨_, rfl⟩
      have hwm : IntKind.i64.wrap ((p.1 : Int) + 1) = (m : Int) := by rw [hmm]; exact IntWalk.i64_in _ (by omega)
      have hwn : IntKind.i64.wrap (-(m : Int)) = -(m : Int) := IntWalk.i64_in _ (by omega)
      have hmB : m ≤ 200000 := by omega
      have hclB : p.2.1.length ≤ 1000000 := by omega
      have hlitB : p.2.2.length ≤ 100000 := by omega
      have HXB : Hid (∀ x ∈ p.2.2, -1000000 ≤ x ∧ x ≤ 1000000) := Lib.hid fun x hx => by have := HF5.out x hx; omega
      have HMM := Lib.hid hmm
      have HEND := Lib.hid (fun (v6 : Value) (S6 : Nat → Prop) (w6 : World) (hs : ∀ b, S6 b → S b ∨ W1.heap.size ≤ b) (hR : CTo K S6 (p.2.1 ++ ownC 6 m p.2.2) (.slice va cll vc) W1 v6 w6) => (show RMEnd K ⟨m, p.2.1 ++ ownC 6 m p.2.2, m⟩ S (.slice va cll vc) w (.returned (.tuple #[v6, .int .i64 m, .int .i64 m])) w6 from ⟨v6, S6, rfl, fun b hb => (hs b hb).imp id (fun h => Nat.le_trans HA.out.size h), hR.before HA.out⟩))
      have HGO : Hid ((⟨p.1 + 1, p.2.1 ++ ownC 6 ((p.1 + 1 : Nat) : Int) p.2.2, ((p.1 + 1 : Nat) : Int)⟩ : MkR) = ⟨m, p.2.1 ++ ownC 6 m p.2.2, m⟩) := Lib.hid (by rw [hmm])
      rw [HGO.out]
      clear hmm HB1 HB2 HTF HLZ HK HM HI hb1 hb2 hlz f1 f2 HF5 hcc f4 HMW HLS HBK HQ HQ1 HBX hbk
      obtain ⟨ka2, kc2, eo, hJ⟩ := HKR.out.begin HKW.out hlitB (x := (-(m : Int))) (by omega)
      injection eo with eo1 eo2 eo3
      subst eo1 eo2 eo3
      have HJ : Hid (∃ S', JR K S W1 (.slice va cll vc) (p.2.1 ++ joinK (-(m : Int)) (-1) p.2.2 0) (.slice ua ul uc) S' (Value.slice oa p.2.2.length oc).ownBlock oa p.2.2 (lastK (-(m : Int)) (-1) p.2.2 0) (.slice (some ⟨wr.heap.size, 0, none⟩) 1 1) (wr.alloc (.cells #[.int .i64 (-(m : Int))] 3))) := Lib.hid ⟨S1, by simpa [joinK, lastK] using hJ⟩
      generalize (Value.slice oa p.2.2.length oc).ownBlock = ko at *
      obtain ⟨ln, hln⟩ : ∃ ln, ln = p.2.2.length := ⟨_, rfl⟩
      have HLN := Lib.hid hln
      rw [← hln] at hlitB ⊢
      clear hJ HKR hln
      go_wp2_with fail
      generalize wr.alloc (.cells #[.int .i64 (-(m : Int))] 3) = W3 at *
      go_loopw [3, 22, 23] (fun u3 o i wr => ∃ (j ol oc ul uc : Nat) (oa2 ua : Option Addr), i = .int .i64 j ∧ j ≤ ln ∧ u3 = .slice ua ul uc ∧ o = .slice oa2 ol oc ∧ Hid (∃ S', JR K S W1 (.slice va cll vc) (p.2.1 ++ joinK (-(m : Int)) (-1) p.2.2 j) (.slice ua ul uc) S' ko oa p.2.2 (lastK (-(m : Int)) (-1) p.2.2 j) (.slice oa2 ol oc) wr)) (fun _ _ i _ => ln - (intOf i).toNat)
      case atStart => exact ⟨0, 1, 1, ul, uc, _, ua, rfl, Nat.zero_le _, rfl, rfl, HJ⟩
      case round =>
        clear HJ
        obtain ⟨j, ol, oc, ul, uc, oa2, ua, rfl, hj, rfl, rfl, hS⟩ := hrel
        obtain ⟨S2, hJ⟩ := hS.out
        have HJ := Lib.hid hJ
        clear hS
        by_cases hjt : j < ln
        · have hjti : (j : Int) < (ln : Int) := by omega
          have hjl : j < p.2.2.length := by rw [← HLN.out]; exact hjt
          obtain ⟨b, off, us, hoa, hbk, hc, rfl, hi⟩ := hJ.kd.2 j hjl
          subst hoa
          have c1 := hc 0 _ rfl
          have ek : Pak.intSh.k = 1 := rfl
          rw [ek, Nat.mul_one, Nat.add_zero] at c1
          have hxb := HXB.out _ (List.getElem_mem hjl)
          have HJK := Lib.hid (joinK_6 (v := (m : Int)) hjl)
          have HLK := Lib.hid (lastK_6 (v := (m : Int)) hjl)
          clear hc hi ek
          have HX : Hid (∃ x, x = p.2.2[j]) := ⟨_, rfl⟩
          obtain ⟨x, hx⟩ := HX.out
          have HX : Hid (∀ h : j < p.2.2.length, p.2.2[j] = x) := Lib.hid fun _ => hx.symm
          rw [← hx] at c1 hxb HJK HLK
          clear hx
          have hwx : IntKind.i64.wrap (-x) = -x := IntWalk.i64_in _ (by omega)
          obtain ⟨a6, n6, c6, w6, hr6, hJ6⟩ := hJ.clause HKW.out (by rw [List.length_append, joinK_len (by omega)]; omega) [(m : Int), -x] (fun y hy => by
            rcases List.mem_cons.1 hy with rfl | hy
            · omega
            · rw [List.mem_singleton] at hy
              subst hy; omega) (by simp) 2 2 rfl
          have c2 : w6.cell? ⟨b, off + j, none⟩ = some (.int .i64 x) := by
            obtain ⟨b', off', us', e', _, hc', rfl, _⟩ := hJ6.kd.2 j hjl
            injection e' with e'
            injection e' with e1 e2 e3
            subst e1 e2
            have := hc' 0 _ rfl
            rw [show Pak.intSh.k = 1 from rfl, Nat.mul_one, Nat.add_zero] at this
            rw [this, HX.out hjl]
          obtain ⟨a7, n7, c7, w7, hr7, hJ7⟩ := hJ6.last HKW.out (by rw [lastK_len (by omega)]; omega) (x := x) (by omega)
          have HF : Hid (∃ S', JR K S W1 (.slice va cll vc) (p.2.1 ++ joinK (-(m : Int)) (-1) p.2.2 (j + 1)) (.slice a6 n6 c6) S' ko (some ⟨b, off, none⟩) p.2.2 (lastK (-(m : Int)) (-1) p.2.2 (j + 1)) (.slice a7 n7 c7) w7) := Lib.hid ⟨_, by rw [HJK.out, HLK.out, ← List.append_assoc]; exact hJ7⟩
          simp only [List.map_cons, List.map_nil] at hr6
          clear hJ hJ6 hJ7 HJ HJK HLK
          go_wp2_with (at_builtin; first | refine Lib.wpList_append_run _ rfl _ _ _ _ rfl _ _ rfl rfl _ _ (hr6 _) ?_ | refine Lib.wpList_append_run _ rfl _ _ _ _ rfl _ _ rfl rfl _ _ (hr7 _) ?_)
          go_roundw
          case rel => exact ⟨j + 1, n7, c7, n6, c6, a7, a6, by go_num, by omega, rfl, rfl, HF⟩
          case measure => simp [intOf]; omega
        · have hjti : ¬ (j : Int) < (ln : Int) := by omega
          obtain rfl : j = ln := by omega
          obtain ⟨oa9, oc9, e9, a6, n6, c6, w6, S6, hr6, hs6, hR6⟩ := hJ.end HKW.out (by rw [List.length_append, joinK_len (by rw [← HLN.out]; omega)]; omega) (by rw [lastK_len (by rw [← HLN.out]; omega)]; omega)
          injection e9 with e91 e92 e93
          rw [← e92, ← e91, ← e93] at hr6
          have HE := Lib.hid (HEND.out _ _ w6 hs6 (by rw [ownC_6, ← join_all, ← HLN.out, ← List.append_assoc]; exact hR6))
          clear hJ HJ hs6 hR6 HEND HXB e91 e92 e93 HLN
          go_wp2_with (at_builtin; refine Lib.wpList_append_run _ rfl _ _ _ _ rfl _ _ rfl rfl _ _ (hr6 _) ?_)
          go_ret3
          have e2 : (p.1 : Int) + 1 = (m : Int) := by rw [HMM.out]; rfl
          rw [HPP.out, e2, ← HMM.out]
          exact HE.out
end Go.Proofs.YtelndcmfddbgiaaDoor
