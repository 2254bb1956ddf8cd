/- The follower's rest: all that follows. -/
import Derived.Test.YtlnkgemndojdnaaDoorPrpE
set_option linter.unusedVariables false
set_option linter.unusedSimpArgs false
namespace Go.Proofs.YtlnkgemndojdnaaDoor
set_option maxRecDepth 100000
open Go.RowKit

theorem least_ex {P : Nat → Prop} : ∀ k, P k → ∃ m, P m ∧ ∀ j, P j → m ≤ j := fun k => by
  induction k using Nat.strongRecOn with
  | _ k ih =>
    intro h
    by_cases e : ∃ j, j < k ∧ P j
    · obtain ⟨j, h1, h2⟩ := e
      exact ih j h1 h2
    · exact ⟨k, h, fun j hj => Classical.byContradiction fun hn => e ⟨j, by omega, hj⟩⟩
open Classical in
noncomputable def least (P : Nat → Prop) : Nat := if h : ∃ m, P m ∧ ∀ j, P j → m ≤ j then h.choose else 0
theorem least_spec {P : Nat → Prop} {k : Nat} (h : P k) : P (least P) ∧ least P ≤ k := by
  have he := least_ex k h
  unfold least
  rw [dif_pos he]
  exact ⟨he.choose_spec.1, he.choose_spec.2 k h⟩

def Jin (B n : Nat) (cs : List (List Int)) (ls : List Int) (p : FolS) (w0 : World) (A0 : Nat → Int) (K0 : Nat) (d : Int) (k : Nat) (cur : Value) (wr : World) : Prop :=
  ∃ z R A Wd H T S Q L, cur = .int .i64 z ∧ k = R.length ∧ St B n cs ls p wr A Wd H T S Q L R ∧ Rest cs n A Q Wd T d z R ∧ Grow A0 A ∧ Q.length + zeros A n = K0 ∧ Below B w0 wr
def Jout (B n : Nat) (cs : List (List Int)) (ls : List Int) (p : FolS) (w0 : World) (A0 : Nat → Int) (k : Nat) (wr : World) : Prop :=
  ∃ A Wd H T S Q L, k = Q.length + zeros A n ∧ St B n cs ls p wr A Wd H T S Q L [] ∧ Grow A0 A ∧ Below B w0 wr
def RestEnd (B n : Nat) (cs : List (List Int)) (ls : List Int) (p : FolS) (w : World) (e : Ending) (w' : World) : Prop :=
  Below B w w' ∧ ((e = .returned (.bool false) ∧ Conf cs ls) ∨ (e = .returned (.bool true) ∧ ∃ A Wd H T S, Fol B n cs.length p w' A Wd H T S [] ∧ FollowIs n cs ls false A))
theorem St.tail {B n : Nat} {cs : List (List Int)} {ls : List Int} {p : FolS} {w : World} {A Wd H T S : Nat → Int} {q : Int} {Q : List Int} {L : Int → List Nat} (h : St B n cs ls p w A Wd H T S (q :: Q) L []) {v : Value} (hq : QRow B p.In w v Q) :
    St B n cs ls p (w.setCell ⟨p.F, 6, none⟩ v) A Wd H T S Q L (L (-q)) ∧ Rest cs n A Q Wd T (-q) (H (place (-q))) (L (-q)) ∧ inR n q := by
  obtain ⟨h1, h2, h3, h4, h5, h6⟩ := h.wat.deq h.asg
  have hqr := (h.asg.qin q List.mem_cons_self).1
  have hb : Below B w (w.setCell ⟨p.F, 6, none⟩ v) := (Below.refl _ _).setCell (p := ⟨p.F, 6, none⟩) (h.fol.lo _ p.inF).1 _
  refine ⟨⟨h.fol.setQ (fun _ _ => rfl) (Nat.le_refl _) hq, h.asg.deq, h1, ?_, h.cl.below hb⟩, ⟨h2, h3, h4, hqr.neg, h5, h6⟩, hqr⟩
  have := h.qb; simp only [List.length_cons] at this; omega

set_option maxRecDepth 100000 in
set_option maxHeartbeats 2000000 in
theorem rest_any {B n : Nat} {cs : List (List Int)} {ls : List Int} {p : FolS} {w : World} {A Wd H T S : Nat → Int} {Q : List Int} {L : Int → List Nat} (hx : Ctx n cs ls) (h : St B n cs ls p w A Wd H T S Q L []) (hB : B ≤ w.heap.size) (hls : ∀ l, l ∈ ls → va A l = 1) (hun : ∀ c, c ∈ cs → ¬ act c → c ≠ [] ∧ va A (c.headD 0) = 1) :
    Calls Tryd.prog 41 #[.pointer (some ⟨p.F, 0, none⟩)] w (RestEnd B n cs ls p w) := by
  have HX := Lib.hid hx
  have HEND : Hid (∀ A' Wd' H' T' S' L' w', St B n cs ls p w' A' Wd' H' T' S' [] L' [] → Grow A A' → FollowIs n cs ls false A') := fun A' Wd' H' T' S' L' w' h' hg => h'.wat.ends hx.sane h'.asg
    (fun l hl => hg l (hx.sane.hl l hl).1 (hls l hl)) (fun c hc ha => ⟨(hun c hc ha).1, hg _ (by
      have hne := (hun c hc ha).1
      cases c with
      | nil => exact absurd rfl hne
      | cons y r => exact (hx.sane.hc _ hc y List.mem_cons_self).1) (hun c hc ha).2⟩)
  have HJ0 : Hid (Jout B n cs ls p w A (Q.length + zeros A n) w) := ⟨A, Wd, H, T, S, Q, L, rfl, h, Grow.refl _, Below.refl _ _⟩
  have HBS : Hid (∀ w', Below B w w' → B ≤ w'.heap.size) := fun w' hb => Nat.le_trans hB hb.size
  clear h hls hun hx hB
  go_enter Tryd.func41, Tryd.ntmps41
  go_wp2_with fail
  go_loopw [] (fun wr => ∃ k, Jout B n cs ls p w A k wr) (fun wr => least (fun k => Jout B n cs ls p w A k wr))
  case atStart => exact ⟨_, HJ0.out⟩
  case round =>
    clear HJ0
    obtain ⟨k1, hk1⟩ := hrel
    have hk := (least_spec (P := fun k => Jout B n cs ls p w A k wr) hk1).1
    generalize hM : (least fun k => Jout B n cs ls p w A k wr) = M at hk ⊢
    clear hk1 k1 hM
    obtain ⟨A1, W1, H1, T1, S1, Q1, L1, hM, hst, hgr, hbw⟩ := hk
    obtain ⟨v6, c6, hq⟩ := hst.fol.c6
    obtain ⟨ao, cap, rfl, _⟩ := hq.ex
    cases Q1 with
    | nil =>
      have HF := Lib.hid (HEND.out _ _ _ _ _ _ _ hst hgr)
      have HL := Lib.hid hst.fol
      have HB := Lib.hid hbw
      simp only [List.length_nil] at c6
      clear hst hgr hq hbw hM HEND
      go_wp2_with fail
      go_ret
      exact ⟨HB.out, .inr ⟨rfl, A1, W1, H1, T1, S1, HL.out, HF.out⟩⟩
    | cons q Q2 =>
      obtain ⟨b, off, rfl, hn1, hn2, qc, q1, q2⟩ := hq.tail
      simp only [List.length_cons] at c6 hM
      have hl2 : (q :: Q2).length ≤ cap := hn2
      simp only [List.length_cons] at hl2
      have hqn := HX.out.hn
      have key : ∀ off', QRow B p.In wr (.slice (some ⟨b, off', none⟩) Q2.length (cap - 1)) Q2 → Hid (St B n cs ls p (wr.setCell ⟨p.F, 6, none⟩ (.slice (some ⟨b, off', none⟩) Q2.length (cap - 1))) A1 W1 H1 T1 S1 Q2 L1 (L1 (-q))) ∧ Hid (Rest cs n A1 Q2 W1 T1 (-q) (H1 (place (-q))) (L1 (-q))) ∧ inR n q ∧ Hid (Below B w (wr.setCell ⟨p.F, 6, none⟩ (.slice (some ⟨b, off', none⟩) Q2.length (cap - 1)))) := fun off' hq' => by
        obtain ⟨t1, t2, t3⟩ := hst.tail hq'
        exact ⟨t1, t2, t3, hbw.setCell (p := ⟨p.F, 6, none⟩) (hst.fol.lo _ p.inF).1 _⟩
      have f6 := hst.fol.fr _ p.inF 6
      have HGR := Lib.hid hgr
      have two : ∃ off', ((cap = 1 ∧ off' = off) ∨ (¬ cap = 1 ∧ off' = off + 1)) ∧ QRow B p.In wr (.slice (some ⟨b, off', none⟩) Q2.length (cap - 1)) Q2 := by
        by_cases hc : cap = 1
        · exact ⟨off, .inl ⟨hc, rfl⟩, q2 (by omega)⟩
        · exact ⟨off + 1, .inr ⟨hc, rfl⟩, q1⟩
      obtain ⟨off', hoff, hq'⟩ := two
      obtain ⟨HT1, HT2, t3, HBW⟩ := key off' hq'
      have hq1 := t3.2.1
      have hq2 := t3.2.2
      have hpl := place_lt t3.neg
      have hw : IntKind.i64.wrap (-q) = -q := IntWalk.i64_in _ (by omega)
      have HP := Lib.hid (fun W => place_any (-q) W (by omega))
      have c3 := HT1.out.fol.c3
      have a3 := HT1.out.fol.aH _ hpl
      clear hst hgr hq hbw q1 q2 t3 key hq'
      generalize H1 (place (-q)) = z0 at HT2 a3
      generalize place (-q) = pl at a3 hpl HP
      have hpl2 : (pl : Int) < (2 * n + 2 : Nat) := by omega
      have HJ0 : Hid (Jin B n cs ls p w A (Q2.length + zeros A1 n) (-q) (L1 (-q)).length (.int .i64 z0) (wr.setCell ⟨p.F, 6, none⟩ (.slice (some ⟨b, off', none⟩) Q2.length (cap - 1)))) :=
        ⟨z0, L1 (-q), A1, W1, H1, T1, S1, Q2, L1, rfl, rfl, HT1.out, HT2.out, HGR.out, rfl, HBW.out⟩
      clear HT1 HT2 HGR HBW
      have hM2 : Hid (Q2.length + zeros A1 n < M) := by show _ < _; omega
      generalize Q2.length + zeros A1 n = K0 at HJ0 hM2
      clear hM
      have hnil : cap = 1 → Q2 = [] := fun h => List.eq_nil_of_length_eq_zero (by omega)
      rcases hoff with ⟨rfl, rfl⟩ | ⟨hc, rfl⟩
      all_goals
        first
        | (obtain rfl := hnil rfl
           simp only [List.length_nil, Nat.zero_add, Nat.sub_self] at c3 a3 HJ0 c6)
        | skip
        clear hnil
        go_wp2_with fail
        refine (HP.out _).mono ?_
        rintro e w' ⟨rfl, rfl⟩
        go_wp2_with fail
        clear c3 a3 c6 f6 qc HP hw
        generalize wr.setCell ⟨p.F, 6, none⟩ _ = w5 at HJ0
        go_loopw [4] (fun cur wr => ∃ k, Jin B n cs ls p w A K0 (-q) k cur wr) (fun cur wr => least (fun k => Jin B n cs ls p w A K0 (-q) k cur wr))
        case atStart => exact ⟨_, HJ0.out⟩
        case round =>
          clear HJ0
          obtain ⟨k2, hk2⟩ := hrel
          have hk := (least_spec (P := fun k => Jin B n cs ls p w A K0 (-q) k u4 wr) hk2).1
          generalize hMM : (least fun k => Jin B n cs ls p w A K0 (-q) k u4 wr) = M2 at hk ⊢
          have HMM := Lib.hid hMM
          clear hk2 k2 hMM
          obtain ⟨z, R, A2, W2, H2, T2, S2, Q3, L2, rfl, hR, st, rs, gr, hK, hb⟩ := hk
          cases R with
          | nil =>
            obtain rfl : z = -1 := rs.ch
            have HJ : Hid (Jout B n cs ls p w A (Q3.length + zeros A2 n) wr) := ⟨A2, W2, H2, T2, S2, Q3, L2, rfl, st, gr, hb⟩
            rw [hK] at HJ
            clear st rs gr hK hb
            go_wp2_with fail
            go_roundw
            case rel => exact ⟨K0, HJ.out⟩
            case measure => exact Nat.lt_of_le_of_lt (least_spec (P := fun k => Jout B n cs ls p w A k wr) HJ.out).2 hM2.out
          | cons x R =>
            obtain ⟨rfl, _⟩ := rs.ch
            obtain ⟨c, hc9, _⟩ := (rs.mem x List.mem_cons_self).1
            have hxl : x < 2 * cs.length := by have := (List.getElem?_eq_some_iff.1 hc9).1; omega
            have hxl2 : (x : Int) < (2 * cs.length : Nat) := by omega
            have hx1 : ¬ ((x : Int) = -1) := by omega
            have c4 := st.fol.c4
            have a4 := st.fol.aT x hxl
            have HLK0 := Lib.hid (look_any HX.out st rs (HBS.out _ hb))
            have e2 : T2 x = T2 x := rfl
            have HLK : Hid (Calls Tryd.prog 48 #[.pointer (some ⟨p.F, 0, none⟩), .int .i64 x] wr fun e w' => Below B wr w' ∧ ((e = .returned (.bool false) ∧ Conf cs ls) ∨ (e = .returned (.bool true) ∧ ∃ A' Wd' H' T' S' Q' L', St B n cs ls p w' A' Wd' H' T' S' Q' L' R ∧ Rest cs n A' Q' Wd' T' (-q) (T2 x) R ∧ Grow A2 A' ∧ Q'.length + zeros A' n = Q3.length + zeros A2 n))) := HLK0.out
            clear HLK0 e2
            have HBB := Lib.hid hb
            have HGR := Lib.hid gr
            clear st rs gr hb hc9
            simp only [List.length_cons] at hR
            generalize T2 x = z2 at a4 HLK
            have HR2 : Hid (R.length < M2) := by show _ < _; omega
            have HPOS : Hid (∀ w' : World, Below B wr w' → Below B w w') := fun w' hb' => HBB.out.trans hb'
            have HNEXT : Hid (∀ (w' : World) (A' Wd' H' T' S' : Nat → Int) (Q' : List Int) (L' : Int → List Nat), Below B wr w' → St B n cs ls p w' A' Wd' H' T' S' Q' L' R → Rest cs n A' Q' Wd' T' (-q) z2 R → Grow A2 A' → Q'.length + zeros A' n = Q3.length + zeros A2 n → Jin B n cs ls p w A K0 (-q) R.length (.int .i64 z2) w') :=
              fun w' A' Wd' H' T' S' Q' L' hb' hs' hr' hg' hk' => ⟨z2, R, A', Wd', H', T', S', Q', L', rfl, rfl, hs', hr', HGR.out.trans hg', hk'.trans hK, HBB.out.trans hb'⟩
            clear HGR HBB hR hK
            go_wp2_with fail
            refine HLK.out.mono ?_
            rintro e w' ⟨hb', ⟨rfl, hcf⟩ | ⟨rfl, A', Wd', H', T', S', Q', L', h1, h2, h3, h4⟩⟩
            · have HC := Lib.hid hcf
              have HB9 := Lib.hid (HPOS.out _ hb')
              clear hcf hb' HLK HNEXT HPOS
              go_wp2_with fail
              go_ret
              exact ⟨HB9.out, .inl ⟨rfl, HC.out⟩⟩
            · have HJ := Lib.hid (HNEXT.out w' A' Wd' H' T' S' Q' L' hb' h1 h2 h3 h4)
              clear h1 h2 h3 h4 hb' HLK HNEXT HPOS
              go_wp2_with fail
              go_roundw
              case rel => exact ⟨_, HJ.out⟩
              case measure => exact Nat.lt_of_le_of_lt (least_spec (P := fun k => Jin B n cs ls p w A K0 (-q) k (.int .i64 z2) w') HJ.out).2 (by rw [HMM.out]; exact HR2.out)
end Go.Proofs.YtlnkgemndojdnaaDoor
