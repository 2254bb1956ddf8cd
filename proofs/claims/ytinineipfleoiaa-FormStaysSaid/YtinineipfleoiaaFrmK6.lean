/- The walk of FormStays. -/
import Derived.Test.YtinineipfleoiaaFrmS2
import Derived.Test.YtinineipfleoiaaFrmS4
import Derived.Test.YtinineipfleoiaaFrmVu
import Derived.Test.YtinineipfleoiaaFrmK1
namespace Go.Proofs.Ytinineipfleoiaa
open Go.RowKit

/-- append of a list of numbers to an own empty one. -/
theorem wpList_append_ints {w : World} {ops : Array Oper} {rest : List Oper} {o : Oper} {a : Act} {Q : Exit → Act → World → Prop} (hgd : o.guard = none) (s x : Operand)
    (ho : o.op = .call { callee := .builtin .append, args := #[s, x], argTypes := #[38, 38] })
    (B Bx : Nat) (v : Value) (hs : a.eval s = v) (h : IRow B [] v w) (ad : Option Addr) (n cap : Nat) (l : List Int) (hx : a.eval x = .slice ad n cap) (hl : Nums Bx w ad l) (hn : l.length = n)
    (hbytes : n * 8 ≤ 140737488351232) (hB : B ≤ w.heap.size)
    (hK : ∀ a' cap' w', IRow B l (.slice a' n cap') w' → w.grownBy w' v.ownBlock → wpList Try.prog ops Q rest (a.put o.dst (.slice a' n cap')) w') : wpList Try.prog ops Q (o :: rest) a w := by
  obtain ⟨i0, hi, hz0, hz1, hz2⟩ := info_parts Try.infoInt
  obtain ⟨v', w', hr, h3, h4⟩ : ∃ v' w', (Builtin.append_ #[38, 38] o.type #[v, .slice ad n cap]).run Try.prog w = .ok v' w' ∧ IRow B l v' w' ∧ w.grownBy w' v.ownBlock := by
    cases ad with
    | none =>
      have h0 : l = [] := by
        cases l with
        | nil => rfl
        | cons m r =>
          obtain ⟨_, _, e, _⟩ := hl 0 (by simp)
          cases e
      subst h0
      obtain rfl : n = 0 := by simpa using hn.symm
      exact ⟨v, w, run_append_none w B _ o.type _ i0 1 Try.underlying38 hi v _ _ h cap, h, World.grownBy.refl w _⟩
    | some ad =>
      obtain ⟨v', w', hr, h3, h4, _⟩ := run_append_own w B 38 o.type 3 i0 _ 1 8 Try.underlying38 hi hz0 hz1 hz2 rfl (by decide) v 0 [] h ad n cap (ints l) (by rw [ints_len, hn]; omega) hl.news (ints_one l) (by unfold maxLen; omega) (by omega) hB
      refine ⟨v', w', hr, ?_, h4⟩
      unfold IRow
      rw [hn]
      simpa using h3
  obtain ⟨a', cap', rfl, _, _⟩ := h3.nums
  rw [hn] at hr h3
  refine wpList_plain hgd fun _ hK' => ?_
  unfold Oper.wp execOp
  simp only [ho, resolve, invoke, builtin, Sem.run_bind, Sem.run_pure, Result.andThen_ok, List.map_toArray, List.map_cons, List.map_nil, hs, hx, hr]
  rw [← hn]
  exact hK' _ _ (by rw [hn]; exact hK _ _ _ h3 h4)

/-- The list whose numbers are overwritten. -/
def LSt (a9 : Option Addr) (m B : Nat) (W : World) : Prop := ∀ j, j < m → ∃ (g : Nat) (x : Int), a9 = some ⟨g, 0, none⟩ ∧ B ≤ g ∧ W.cell? ⟨g, j, none⟩ = some (.int .i64 x) ∧ ∀ o, W.frozen? ⟨g, o, none⟩ = false
theorem LSt.set {g m B k : Nat} {W : World} (h : LSt (some ⟨g, 0, none⟩) m B W) (hk : k < m) (y : Int) : LSt (some ⟨g, 0, none⟩) m B (W.setCell ⟨g, k, none⟩ (.int .i64 y)) := fun j hj => by
  obtain ⟨g', x, e, hB, hc, hf⟩ := h j hj
  have eg : g = g' := by injection e with e; injection e
  subst eg
  by_cases e : k = j
  · subst e
    exact ⟨g, y, rfl, hB, World.cell?_setCell_same _ _ _ hc, fun o => by rw [World.frozen?_setCell]; exact hf o⟩
  · exact ⟨g, x, rfl, hB, by rw [World.cell?_setCell_other _ _ _ _ (by simp [e])]; exact hc, fun o => by rw [World.frozen?_setCell]; exact hf o⟩
theorem IRow.lst {B : Nat} {zs : List Int} {a : Option Addr} {n cap : Nat} {w : World} (h : IRow B zs (.slice a n cap) w) (hn : zs.length = n) : LSt a n B w := fun j hj => by
  rcases h.at with ⟨e, e2⟩ | ⟨g, cap', e, hB, _, _, _, hf, hc⟩
  · subst e2; simp at hn; omega
  · injection e with e1 e2 e3
    exact ⟨g, _, e1, hB, hc j (by omega), hf⟩

set_option maxRecDepth 100000 in
set_option maxHeartbeats 4000000 in
theorem formStays_any (hup : UpSaid2) (n : Nat) (f : FT) (cs : List Value) (a2 : Option Addr) (n2 cap2 : Nat) (zs : List Int) (w : World) (h : FLies w.heap.size w n f cs) (hn2 : zs.length = n2) (hm2 : n2 * 8 ≤ 140737488351232) (hz : Nums w.heap.size w a2 zs) :
    Calls Try.prog 8 #[.agg cs.toArray, .slice a2 n2 cap2] w fun e w' => e = .returned (.bool true) ∧ Below w.heap.size w w' := by
  have FL := fun W (hb : Below w.heap.size w W) => (h.below hb).mono hb.size
  cases n with
  | zero => exact h.elim
  | succ n =>
    obtain ⟨ta, tcap, ka, kcap, rfl, _⟩ := h
    have hsm := Lib.hid (fun W hb => smallL_any (n + 1) f _ W (FL W hb))
    have hcp := Lib.hid (fun (hl : litF (n + 1) f) W hb => copy_any (n + 1) f _ W (FL W hb) hl)
    have HFL := Lib.hid FL
    have HZ := Lib.hid hz
    have HN := Lib.hid hn2
    have T0 := Lib.hid (box_start w f.kind f.c ta ka f.t.length tcap f.ks.length kcap)
    clear FL hz hn2
    generalize f.kind = fk at T0 hsm hcp HFL
    generalize f.c = fc at T0 hsm hcp HFL
    generalize f.t.length = ft at T0 hsm hcp HFL
    generalize f.ks.length = fl at T0 hsm hcp HFL
    go_enter Try.func8, Try.ntmps8
    go_wp2_with fail
    refine (hup _).mono ?_
    rintro e w1 ⟨rfl, hb1⟩
    have T1 := Lib.hid (T0.out.below hb1 T0.out.lt)
    clear hb1
    obtain ⟨l1, p0, p1, p2, p3, _⟩ := T1.out
    go_wp2_with fail
    refine (hsm.out _ T1.out.bel).mono ?_
    rintro e w2 ⟨b, rfl, hlb, hb2⟩
    have T2 := Lib.hid (T1.out.below hb2 T1.out.lt)
    clear hb2 l1 p0 p1 p2 p3
    obtain ⟨l2, p0, p1, p2, p3, _⟩ := T2.out
    cases b with
    | false =>
      go_wp2_with fail
      go_ret
      exact ⟨rfl, T2.out.bel⟩
    | true =>
      have hlf : litF (n + 1) f := hlb rfl
      clear hlb
      go_wp2_with fail
      refine (hcp.out hlf _ T2.out.bel).mono ?_
      rintro e w3 ⟨cs3, rfl, hfl3, hb3⟩
      have T3 := Lib.hid (T2.out.below hb3 T2.out.lt)
      obtain ⟨dk, dc, dta, dtn, dtcap, dka, dkn, dkcap, rfl⟩ := hfl3.form
      have OF := Lib.hid (hfl3.lies (B := w3.heap.size) (fun b h => h.2))
      clear hb3 hfl3 l2 p0 p1 p2 p3 hlf
      have U0 := Lib.hid (box_start w3 dk dc dta dka dtn dtcap dkn dkcap)
      have T3b := Lib.hid (T3.out.below U0.out.bel T3.out.lt)
      have hown0 : Hid (IRow (w3.alloc (.cells #[.int .i64 dk, .int .i64 dc, .slice dta dtn dtcap, .slice dka dkn dkcap] 27)).heap.size [] (.slice (some ⟨(w3.alloc (.cells #[.int .i64 dk, .int .i64 dc, .slice dta dtn dtcap, .slice dka dkn dkcap] 27)).heap.size, 0, none⟩) 0 0) ((w3.alloc (.cells #[.int .i64 dk, .int .i64 dc, .slice dta dtn dtcap, .slice dka dkn dkcap] 27)).alloc (.cells #[] 3))) := World.ownsRow_made _ #[] 0 (Nat.le_refl _) (by decide) rfl
      have hs3 : (w3.alloc (.cells #[.int .i64 dk, .int .i64 dc, .slice dta dtn dtcap, .slice dka dkn dkcap] 27)).heap.size = w3.heap.size + 1 := by simp
      rw [hs3] at hown0
      have HA : Hid (Below (w3.heap.size + 1) (w3.alloc (.cells #[.int .i64 dk, .int .i64 dc, .slice dta dtn dtcap, .slice dka dkn dkcap] 27)) ((w3.alloc (.cells #[.int .i64 dk, .int .i64 dc, .slice dta dtn dtcap, .slice dka dkn dkcap] 27)).alloc (.cells #[] 3))) := (Below.refl _ _).alloc (by simp) _
      have BZ : Hid (Below w.heap.size w ((w3.alloc (.cells #[.int .i64 dk, .int .i64 dc, .slice dta dtn dtcap, .slice dka dkn dkcap] 27)).alloc (.cells #[] 3))) := T3b.out.bel.trans (HA.out.mono (by have := T3.out.lt; omega))
      clear hs3
      go_wp2_with (at_builtin; refine wpList_append_ints rfl _ _ rfl (w3.heap.size + 1) w.heap.size _ rfl hown0.out a2 n2 cap2 zs rfl (HZ.out.below BZ.out) HN.out hm2 ?c1 ?_)
      case c1 => simp
      intro a4 cap4 w4 hrow4 hgrow4
      have B4 : Hid (Below (w3.heap.size + 1) (w3.alloc (.cells #[.int .i64 dk, .int .i64 dc, .slice dta dtn dtcap, .slice dka dkn dkcap] 27)) w4) := HA.out.grown hgrow4 (by simp) (fun k hk => (World.ownsRow.lt hown0.out k hk).1)
      have U4 := Lib.hid (U0.out.below B4.out (Nat.lt_succ_self _))
      have T4 := Lib.hid (T3b.out.below B4.out (by have := T3.out.lt; omega))
      have R4 := Lib.hid hrow4
      clear hrow4 hgrow4 HA BZ hown0
      obtain ⟨lo4, s0, s1, s2, s3, _⟩ := U4.out
      go_wp2_with fail
      refine (fcheck_any (n + 1) f _ w4 ((OF.out.below U4.out.bel).mono U4.out.bel.size)).mono ?_
      rintro e w5 ⟨rfl, hb5⟩
      have U5 := Lib.hid (U4.out.below hb5 U4.out.lt)
      have T5 := Lib.hid (T4.out.below hb5 T4.out.lt)
      have R5 := Lib.hid (R4.out.calls hb5)
      clear hb5 R4 lo4 s0 s1 s2 s3
      obtain ⟨lo5, s0, s1, s2, s3, _⟩ := U5.out
      have hnum5 : Nums w5.heap.size w5 a4 zs := by
        obtain ⟨a', c', e, hnn, _⟩ := R5.out.nums
        injection e with e1 e2 e3
        subst e1
        exact hnn
      have hva := fvalue_any (n + 1) f _ a4 n2 cap4 zs w5 ((OF.out.below U5.out.bel).mono U5.out.bel.size) HN.out hnum5
      clear hnum5
      generalize codeV (cc (n + 1) f) = z5
      generalize fvN zs (n + 1) f = p5 at hva
      obtain ⟨o5, k5⟩ := p5
      generalize hz6 : codeV (o5, k5).2 = z6 at hva
      clear hz6
      go_wp2_with fail
      refine hva.mono ?_
      rintro e w6 ⟨rfl, hb6⟩
      have U6 := Lib.hid (U5.out.below hb6 U5.out.lt)
      have T6 := Lib.hid (T5.out.below hb6 T5.out.lt)
      have R6 := Lib.hid (R5.out.calls hb6)
      clear hb6 R5 lo5 s0 s1 s2 s3 hva
      obtain ⟨lo6, s0, s1, s2, s3, _⟩ := U6.out
      go_wp2_with fail
      refine (fvars_any (n + 1) f _ w6 ((OF.out.below U6.out.bel).mono U6.out.bel.size)).mono ?_
      rintro e w7 ⟨v7, rfl, hr7, hb7⟩
      have hul := vU_len (n + 1) f
      obtain ⟨a9, cap9, rfl, _, _⟩ := hr7.nums
      have L7 := Lib.hid (hr7.lst rfl)
      have S6 := Lib.hid hb7
      have B67 := Lib.hid hb7.size
      clear hr7 hb7 lo6 s0 s1 s2 s3
      generalize (vU (n + 1) f).length = m at L7 hul
      have I7 : Hid (Below w6.heap.size w6 w7) := S6
      go_wp2_with fail
      go_loopw [10] (fun i wr => ∃ k : Nat, k ≤ m ∧ i = .int .i64 k ∧ Hid (LSt a9 m w6.heap.size wr) ∧ Hid (Below w6.heap.size w6 wr)) (fun i _ => m - (intOf i).toNat)
      case atStart => exact ⟨0, Nat.zero_le _, rfl, L7, I7⟩
      case round =>
        obtain ⟨k, hk, rfl, hL, hB⟩ := hrel
        by_cases hlt : k < m
        · obtain ⟨g, x, rfl, hg, hc, hf⟩ := hL.out k hlt
          have HL2 := Lib.hid (hL.out.set hlt (-1))
          have HB2 := Lib.hid (hB.out.setCell (p := ⟨g, k, none⟩) hg (.int .i64 (-1)))
          go_wp2_with fail
          go_roundw
          case rel => exact ⟨k + 1, by omega, by go_num, HL2, HB2⟩
          case measure => simp [intOf]; omega
        · have U8 := Lib.hid (U6.out.below hB.out U6.out.lt)
          have T8 := Lib.hid (T6.out.below hB.out T6.out.lt)
          have R8 := Lib.hid (R6.out.calls hB.out)
          have HM : Hid (Nums wr.heap.size wr a4 zs) := by
            obtain ⟨a', c', e, hnn, _⟩ := R8.out.nums
            injection e with e1 e2 e3
            subst e1
            exact hnn
          have HV : Hid (Nums w.heap.size wr a2 zs) := HZ.out.below T8.out.bel
          clear hL
          go_wp2_with fail
          go_loopw [11] (fun i wq => ∃ k : Nat, k ≤ n2 ∧ i = .int .i64 k ∧ Hid (∃ q, wq = wr.drewN q)) (fun i _ => n2 - (intOf i).toNat)
          case atStart => exact ⟨0, Nat.zero_le _, rfl, 0, rfl⟩
          case round =>
            obtain ⟨j, hj, rfl, hw⟩ := hrel
            obtain ⟨q, hw⟩ := hw.out
            subst hw
            by_cases hjl : j < n2
            · obtain ⟨b3, o3, rfl, hb3, g3⟩ := HM.out j (by rw [HN.out]; exact hjl)
              obtain ⟨b5, o5, rfl, hb5, g5⟩ := HV.out j (by rw [HN.out]; exact hjl)
              generalize zs.getD j 0 = x at g3 g5
              have hxx : (x != x) = false := by simp
              go_wp2_with fail
              go_quiet (fail)
              go_wp2
              go_roundw
              case rel => exact ⟨j + 1, by omega, by go_num, ⟨_, rfl⟩⟩
              case measure => simp [intOf]; omega
            · obtain ⟨_, s0, s1, s2, s3, _⟩ := U8.out
              obtain ⟨_, p0, p1, p2, p3, _⟩ := T8.out
              have hsame := Lib.hid (same2_any (n + 1) f _ _ (wr.drewN q) (((OF.out.below U8.out.bel).below (below_drewN (Below.refl _ _) q)).mono U8.out.bel.size) (((HFL.out wr T8.out.bel).below (below_drewN (Below.refl _ _) q))))
              go_wp2_with fail
              refine hsame.out.mono ?_
              rintro e w9 ⟨rfl, hb9⟩
              have T9 : Hid (Below w.heap.size w w9) := (below_drewN T8.out.bel q).trans (hb9.mono T8.out.bel.size)
              clear hb9 s0 s1 s2 s3 p0 p1 p2 p3
              go_wp2_with fail
              go_ret
              exact ⟨rfl, T9.out⟩
end Go.Proofs.Ytinineipfleoiaa
