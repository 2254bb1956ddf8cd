/- norm.kids. -/
import Derived.Test.YtelndcmfddbgiaaDoorCt17
import Derived.Test.YtelndcmfddbgiaaDoorCt38
set_option linter.unusedVariables false
set_option linter.unusedSimpArgs false
namespace Go.Proofs.YtelndcmfddbgiaaDoor
open Go.RowKit

/-- append of a formula to an own list. -/
theorem wpList_append_form {w : World} {ops : Array Oper} {rest : List Oper} {o : Oper} {a : Act} {Q : Exit → Act → World → Prop} (hgd : o.guard = none) (s x : Operand)
    (ho : o.op = .call { callee := .builtin .append, args := #[s, x], argTypes := #[25, 25] })
    (B : Nat) (v : Value) (hs : a.eval s = v) (css : List (List Value)) (h : ORow B css v w) (ad : Addr) (cap : Nat) (cs : List Value) (hx : a.eval x = .slice (some ad) 1 cap) (hcs : cs.length = 4)
    (hnews : ∀ j u, cs[j]? = some u → w.cell? (ad.add j) = some u) (h1 : ∀ u ∈ cs, u.oneCell' = true) (hlen : css.length ≤ 1048576) (hB : B ≤ w.heap.size)
    (hK : ∀ v' w', ORow B (css ++ [cs]) v' w' → w.grownBy w' v.ownBlock → (v'.ownBlock = v.ownBlock ∨ v'.ownBlock = some w.heap.size) → wpList Tryd.prog ops Q rest (a.put o.dst v') w') :
    wpList Tryd.prog ops Q (o :: rest) a w := by
  obtain ⟨i0, hi, hz0, hz1, hz2⟩ := info_parts Tryd.infoForm
  obtain ⟨v', w', hr, h3, h4, _, h5⟩ := run_append_own_at w B 25 o.type 27 i0 _ 4 64 Tryd.underlying25 hi hz0 hz1 hz2 rfl (by decide) v css.length css.flatten h ad 1 cap cs (by rw [hcs]) hnews h1 (by unfold maxLen; omega) (by omega) hB
  refine wpList_plain hgd fun _ hK' => ?_
  unfold Oper.wp execOp
  simp only [ho, resolve, invoke, builtin, Sem.run_bind, Sem.run_pure, Result.andThen_ok, List.map_toArray, List.map_cons, List.map_nil, hs, hx, hr]
  refine hK' _ _ (hK _ _ ?_ h4 h5)
  unfold ORow
  rw [List.length_append, List.flatten_append, List.flatten_singleton]
  exact h3

theorem NormEnd.some {B m : Nat} {g : FT} {x y : Value} {w : World} {e : Ending} {w' : World} (h : NormEnd B m (some g) x y w e w') :
    ∃ cs, e = .returned (.tuple #[.agg cs.toArray, x]) ∧ FLiesQ (fun b => B ≤ b ∧ b < w'.heap.size) w' m g cs ∧ Below B w w' := h
theorem NormEnd.none {B m : Nat} {x y : Value} {w : World} {e : Ending} {w' : World} (h : NormEnd B m none x y w e w') :
    ∃ cs, e = .returned (.tuple #[.agg cs.toArray, y]) ∧ FLiesQ (fun b => B ≤ b ∧ b < w'.heap.size) w' m (.mk 0 0 [] []) cs ∧ Below B w w' := h

/-- What the parts' calls answer, by the program. -/
def NI (n : Nat) : Prop := ∀ (f : FT) (so : Bool) (cs : List Value) (W : World), sndF n f = true → litF n f → FLies W.heap.size W n f cs →
  Calls Tryd.prog 32 #[.agg cs.toArray, .bool so] W (NormEnd W.heap.size (n + 2) (normF n f so) .nilIface (.iface 43 (.int .i64 3)) W)

/-- What a list's rounds begin with. -/
theorem kids_begin {w W1 : World} {n : Nat} {F : FT} (hT : F.t = []) {k c J : Int} {ta ka : Option Addr} {tn tcap kn kcap : Nat} (hx : Box w W1 w.heap.size k c ta tn tcap ka kn kcap) (hf : FB W1 (w.heap.size + 1)) (hz : w.heap.size + 2 = W1.heap.size) :
    CS w.heap.size W1.heap.size n F none 0 [] (.slice none 0 0) (W1.alloc (.cells #[.int .i64 J, .int .i64 0, .slice none 0 0, .slice none 0 0] 27)) ∧
    OB (W1.alloc (.cells #[.int .i64 J, .int .i64 0, .slice none 0 0, .slice none 0 0] 27)) W1.heap.size J 0 none 0 0 (.slice none 0 0) ∧
    RB (W1.alloc (.cells #[.int .i64 J, .int .i64 0, .slice none 0 0, .slice none 0 0] 27)) (w.heap.size + 1) ∧
    Box w (W1.alloc (.cells #[.int .i64 J, .int .i64 0, .slice none 0 0, .slice none 0 0] 27)) w.heap.size k c ta tn tcap ka kn kcap := by
  have hb4 : Below W1.heap.size W1 (W1.alloc (.cells #[.int .i64 J, .int .i64 0, .slice none 0 0, .slice none 0 0] 27)) := (Below.refl _ _).alloc (Nat.le_refl _) _
  have hn := heap_alloc_new W1 (.cells #[.int .i64 J, .int .i64 0, .slice none 0 0, .slice none 0 0] 27)
  obtain ⟨r0, r1, r2, r3, rf⟩ := hf.below hb4 (by omega)
  refine ⟨⟨World.ownsRow_nil _ _ _ _, rfl, fun c hc => (by cases hc), fun g hg => (by cases hg), by omega, by simp, ?_, fun j hj => absurd hj (Nat.not_lt_zero j)⟩,
    ⟨by rw [cell_of_row _ _ _ _ _ _ hn]; rfl, by rw [cell_of_row _ _ _ _ _ _ hn]; rfl, by rw [cell_of_row _ _ _ _ _ _ hn]; rfl, by rw [cell_of_row _ _ _ _ _ _ hn]; rfl, fun o => frozen_of_row _ _ _ _ _ hn⟩, ⟨r0, r1, r2, r3, rf⟩, hx.below hb4 (by omega)⟩
  rw [hT]
  exact fun i hi => absurd hi (Nat.not_lt_zero i)

/-- What a round makes. -/
structure Round (w : World) (No n : Nat) (F : FT) (J fk fc : Int) (ta : Option Addr) (ft tcap : Nat) (ka : Option Addr) (len kcap k : Nat) (css : List (List Value)) (v : Value) (W : World) : Prop where
  cs : CS w.heap.size No n F none k css v W
  ob : OB W No J 0 none 0 0 v
  rb : RB W (w.heap.size + 1)
  bx : Box w W w.heap.size fk fc ta ft tcap ka len kcap
theorem Round.fb {w : World} {No n : Nat} {F : FT} {J fk fc : Int} {ta : Option Addr} {ft tcap : Nat} {ka : Option Addr} {len kcap k : Nat} {css : List (List Value)} {v : Value} {W : World} (h : Round w No n F J fk fc ta ft tcap ka len kcap k css v W) : FB W (w.heap.size + 1) :=
  ⟨h.rb.r0, h.rb.r1, h.rb.r2, h.rb.r3, h.rb.fz⟩
theorem Round.zs {w : World} {No n : Nat} {F : FT} {J fk fc : Int} {ta : Option Addr} {ft tcap : Nat} {ka : Option Addr} {len kcap k : Nat} {css : List (List Value)} {v : Value} {W : World} (h : Round w No n F J fk fc ta ft tcap ka len kcap k css v W) : w.heap.size + 1 < No ∧ No < W.heap.size := ⟨h.cs.lt, h.cs.ltz⟩
theorem Round.step {w : World} {No n : Nat} {F : FT} {J fk fc : Int} {ta : Option Addr} {ft tcap : Nat} {ka : Option Addr} {len kcap k : Nat} {css : List (List Value)} {v v8 : Value} {W w6 w8 : World} {cs1 : List Value} {o : Obj} (h : Round w No n F J fk fc ta ft tcap ka len kcap k css v W)
    (hb : Below W.heap.size W w6) (hk : FLiesQ (fun b => W.heap.size ≤ b ∧ b < w6.heap.size) w6 n (F.ks.getD k default) cs1) (hrow : ORow w.heap.size (css ++ [cs1]) v8 w8) (hg : (w6.alloc o).grownBy w8 v.ownBlock) (hat : v8.ownBlock = v.ownBlock ∨ v8.ownBlock = some (w6.heap.size + 1)) :
    Round w No n F J fk fc ta ft tcap ka len kcap (k + 1) (css ++ [cs1]) v8 (w8.setCell ⟨No, 3, none⟩ v8) := by
  have far := fun b p h1 h2 => round_far (No := No) (v6 := v8) h.cs.row hb hg b p h1 h2
  have hlt := h.cs.lt
  have hlz := h.cs.ltz
  have hown := h.cs.own
  have hnr : ∀ b', b' ≤ No → v.ownBlock ≠ .some b' := fun b' hb' e => by have := hown b' e; omega
  have hz1 := hb.size
  have hbz := h.bx.lt
  have hcc : ∀ o, (w8.setCell ⟨No, 3, none⟩ v8).cell? ⟨w.heap.size, o, none⟩ = W.cell? ⟨w.heap.size, o, none⟩ := fun o => (far _ o hbz (hnr _ (by omega))).2.2 (by omega)
  have hbw : Below w.heap.size w w8 := ((h.bx.bel.trans (hb.mono (Nat.le_of_lt hbz))).alloc (by omega) _).grown hg (by simp; omega) (fun g hg => by have := hown g hg; omega)
  refine ⟨CS.step (x := v8) h.cs hb hk hrow hg hat, (h.ob.keep (fun o => (far No o hlz (hnr No (Nat.le_refl _))).1) (fun o => (far No o hlz (hnr No (Nat.le_refl _))).2.1)).set v8,
    h.rb.keep (fun o => (far _ o (by omega) (hnr _ (by omega))).2.2 (by omega)) (fun o => (World.frozen?_setCell _ _ _ _).trans (far _ o (by omega) (hnr _ (by omega))).2.1),
    ⟨?_, (hcc 0).trans h.bx.c0, (hcc 1).trans h.bx.c1, (hcc 2).trans h.bx.c2, (hcc 3).trans h.bx.c3, hbw.setCell (p := ⟨No, 3, none⟩) (by show _ ≤ No; omega) _⟩⟩
  rw [World.size_setCell]
  have := hg.size
  simp at this
  omega
theorem Round.stored {w : World} {No n : Nat} {F : FT} {J fk fc : Int} {ta : Option Addr} {ft tcap : Nat} {ka : Option Addr} {len kcap k : Nat} {css : List (List Value)} {v : Value} {W w6 w8 : World} {o : Obj} (h : Round w No n F J fk fc ta ft tcap ka len kcap k css v W)
    (hb : Below W.heap.size W w6) (hg : (w6.alloc o).grownBy w8 v.ownBlock) : w8.cell? ⟨No, 3, none⟩ = some v ∧ ∀ j, w8.frozen? ⟨No, j, none⟩ = false := by
  have far := fun b p h1 h2 => round_far (No := No) (v6 := v) h.cs.row hb hg b p h1 h2
  have hown := h.cs.own
  have hnr : v.ownBlock ≠ .some No := fun e => by have := hown No e; omega
  exact ⟨(far No 3 h.cs.ltz hnr).1.trans h.ob.o3, fun j => (far No j h.cs.ltz hnr).2.1.trans (h.ob.fz j)⟩
/-- What the rounds end in. -/
theorem Round.done {w : World} {No n : Nat} {F : FT} {J fk fc : Int} {ta : Option Addr} {ft tcap : Nat} {ka : Option Addr} {len kcap k : Nat} {css : List (List Value)} {v : Value} {W : World} (h : Round w No n F J fk fc ta ft tcap ka len kcap k css v W)
    (hT : F.t = []) (hC : F.c = 0) (hJ : F.kind = J) (hk : k = F.ks.length) (hk4 : k ≤ 1048576) :
    ∃ a cap, v = .slice a k cap ∧ Ret w ((((W.setCell ⟨w.heap.size + 1, 0, none⟩ (.int .i64 J)).setCell ⟨w.heap.size + 1, 1, none⟩ (.int .i64 0)).setCell ⟨w.heap.size + 1, 2, none⟩ (.slice none 0 0)).setCell ⟨w.heap.size + 1, 3, none⟩ (.slice a k cap)) (n + 1) F (.int .i64 J) (.int .i64 0) (.slice none 0 0) (.slice a k cap) := by
  obtain ⟨a, cap, hv, ha⟩ := h.cs.row.form
  rw [h.cs.len] at hv
  refine ⟨a, cap, hv, ?_⟩
  have hc := h.cs
  rw [hk] at hc
  obtain ⟨e0, e1, e2, e3⟩ := res4 h.fb (.int .i64 J) (.int .i64 0) (.slice none 0 0) (.slice a k cap)
  obtain ⟨c3, e, hl⟩ := CS.done (cap3 := 0) (w' := set4 W (w.heap.size + 1) (.int .i64 J) (.int .i64 0) (.slice none 0 0) (.slice a k cap)) hc (by rw [hT]; exact Nat.zero_le _) (by omega) (by rw [set4_size]; exact Nat.le_refl _) (fun b o hb => set4_far _ _ _ _ _ _ _ _ (by omega)) ⟨cap, by rw [← hk, ← ha]; exact hv⟩
  subst e
  rw [hJ, hC, hT, hv] at hl
  exact ⟨hl, below4 h.bx.bel (Nat.le_succ _) _ _ _ _, e0, e1, e2, e3⟩

set_option maxRecDepth 100000 in
set_option maxHeartbeats 3200000 in
theorem nkids_any (n : Nat) (IH : NI n) (f : FT) (so : Bool) (cs : List Value) (w : World) (hk56 : 5 ≤ f.kind ∧ f.kind ≤ 6) (hs : ∀ i, i < f.ks.length → sndF n (f.ks.getD i default) = true) (hlit : litF (n + 1) f) (h : FLies w.heap.size w (n + 1) f cs) :
    Calls Tryd.prog 57 #[.agg cs.toArray, .bool so] w (NormEnd w.heap.size (n + 3) (if (f.ks.all fun k => (normF n k so).isSome) = true then some (kidsT n f so) else none) .nilIface (.iface 43 (.int .i64 3)) w) := by
  obtain ⟨ta, tcap, ka, kcap, rfl, _, _, hk4, hks⟩ := h
  obtain ⟨_, hk20, hklit⟩ := hlit
  have ST := Lib.hid (args_start w f.kind f.c ta ka f.t.length tcap f.ks.length kcap)
  have SZ : Hid (w.heap.size + 2 = ((w.alloc (.cells #[.int .i64 f.kind, .int .i64 f.c, .slice ta f.t.length tcap, .slice ka f.ks.length kcap] 27)).alloc (.cells #[.int .i64 0, .int .i64 0, .slice none 0 0, .slice none 0 0] 27)).heap.size) := by show _ = _; simp
  have HI := Lib.hid IH
  have HK := Lib.hid hks
  have HKL := Lib.hid hklit
  have HSN := Lib.hid hs
  have HJ := Lib.hid (fun W => joint_any f.kind so W hk56)
  have HKT : Hid (∀ k g, k < f.ks.length → normF n (f.ks.getD k default) so = some g → (kidsT n f so).ks.getD k default = g) := fun k g h1 h2 => kidsT_get h1 h2
  have HF : Hid ((kidsT n f so).t = [] ∧ (kidsT n f so).c = 0 ∧ (kidsT n f so).kind = (if so then f.kind else 11 - f.kind) ∧ (kidsT n f so).ks.length = f.ks.length) := ⟨rfl, rfl, rfl, kidsT_len n f so⟩
  have HALL : Hid ((∀ k, k < f.ks.length → (normF n (f.ks.getD k default) so).isSome = true) → (if (f.ks.all fun k => (normF n k so).isSome) = true then some (kidsT n f so) else none) = some (kidsT n f so)) := fun h => if_pos (by
    rw [List.all_eq_true]
    intro g hg
    obtain ⟨i, hi, rfl⟩ := List.getElem_of_mem hg
    have := h i hi
    rw [List.getD_eq_getElem?_getD, List.getElem?_eq_getElem hi] at this
    exact this)
  have HBAD : Hid (∀ k, k < f.ks.length → normF n (f.ks.getD k default) so = none → (if (f.ks.all fun k => (normF n k so).isSome) = true then some (kidsT n f so) else none) = none) := fun k hk h => if_neg (fun ha => by
    rw [List.all_eq_true] at ha
    have := ha _ (List.getElem_mem hk)
    rw [List.getD_eq_getElem?_getD, List.getElem?_eq_getElem hk] at h
    rw [show normF n f.ks[k] so = none from h] at this
    cases this)
  generalize (if (f.ks.all fun k => (normF n k so).isSome) = true then some (kidsT n f so) else none) = OUT at HALL HBAD ⊢
  generalize kidsT n f so = F at HKT HF HALL
  have n0 := fun W => Tryd.neNil W
  have n3 := fun W => Tryd.neCode 3 W
  clear IH hks hklit hs
  generalize (if so then f.kind else 11 - f.kind) = J at HJ HF
  generalize f.kind = fk at ST SZ HJ
  generalize f.c = fc at ST SZ
  generalize f.t.length = ft at ST SZ
  generalize hl : f.ks.length = len at ST SZ HK HKL HSN HKT HF HALL HBAD hk4 hk20
  have HCLEN : Hid (∀ css : List (List Value), css.length ≤ len → css.length ≤ 1048576) := fun css h => Nat.le_trans h hk20
  clear hl
  obtain ⟨-, p0, p1, p2, p3, -⟩ := ST.out.1
  generalize hW : (w.alloc (.cells #[.int .i64 fk, .int .i64 fc, .slice ta ft tcap, .slice ka len kcap] 27)).alloc (.cells #[.int .i64 0, .int .i64 0, .slice none 0 0, .slice none 0 0] 27) = W1 at ST SZ p0 p1 p2 p3
  go_enter Tryd.func57, Tryd.ntmps57
  go_wp2_with fail
  clear hW
  refine (HJ.out _).mono ?_
  rintro e w2 ⟨rfl, rfl⟩
  have BG := Lib.hid (kids_begin (n := n + 2) (J := J) HF.out.1 ST.out.1 ST.out.2 SZ.out)
  have R4 : Hid (Round w W1.heap.size (n + 2) F J fk fc ta ft tcap ka len kcap 0 [] (.slice none 0 0) (W1.alloc (.cells #[.int .i64 J, .int .i64 0, .slice none 0 0, .slice none 0 0] 27))) := ⟨BG.out.1, BG.out.2.1, BG.out.2.2.1, BG.out.2.2.2⟩
  have q2 := BG.out.2.2.2.c2
  have q3 := BG.out.2.2.2.c3
  clear BG p0 p1 p2 p3
  go_wp2_with fail
  clear q2 q3
  generalize W1.alloc (.cells #[.int .i64 J, .int .i64 0, .slice none 0 0, .slice none 0 0] 27) = w4 at R4 ⊢
  generalize W1.heap.size = No at R4 ⊢
  clear ST SZ
  go_loopw [19] (fun i wr => ∃ (k : Nat) (v : Value) (css : List (List Value)), k ≤ len ∧ i = .int .i64 k ∧ Hid (∀ j, j < k → (normF n (f.ks.getD j default) so).isSome = true) ∧ Hid (Round w No (n + 2) F J fk fc ta ft tcap ka len kcap k css v wr)) (fun i _ => len - (intOf i).toNat)
  case atStart => exact ⟨0, .slice none 0 0, [], Nat.zero_le _, rfl, fun j hj => absurd hj (Nat.not_lt_zero j), R4⟩
  case round =>
    clear R4
    obtain ⟨k, v, css, hk, rfl, hall, hr⟩ := hrel
    obtain ⟨bz, _, _, _, _, hb⟩ := hr.out.bx
    by_cases hlt : k < len
    · obtain ⟨b, off, c0, c1, c2, c3, rfl, hblt, g0, g1, g2, g3, hf⟩ := HK.out k hlt
      rw [← hb.cell (p := ⟨b, _, none⟩) hblt] at g0 g1 g2 g3
      obtain ⟨ck, cc, cta, ctn, ctcap, cka, ckn, ckcap, rfl, rfl, rfl, rfl⟩ := hf.form
      have hba := (Below.refl wr.heap.size wr).alloc (Nat.le_refl _) (.cells #[.int .i64 ck, .int .i64 cc, .slice cta ctn ctcap, .slice cka ckn ckcap] 27)
      have hb4 := hb.trans (hba.mono hb.size)
      have hih := Lib.hid (HI.out (f.ks.getD k default) so _ _ (HSN.out k hlt) (HKL.out k hlt) ((hf.below hb4).mono hb4.size))
      have HBA := Lib.hid hba
      have Z4 : wr.heap.size + 1 = (wr.alloc (.cells #[.int .i64 ck, .int .i64 cc, .slice cta ctn ctcap, .slice cka ckn ckcap] 27)).heap.size := by simp
      obtain ⟨hzN, hzo⟩ := hr.out.zs
      clear hf hba hb4
      cases hn : normF n (f.ks.getD k default) so with
      | none =>
        have hbad := HBAD.out k hlt hn
        subst hbad
        rw [hn] at hih
        clear HALL HKT HI HSN HKL HK HJ
        go_wp2_with fail
        refine hih.out.mono ?_
        intro e w5 he
        obtain ⟨cs5, rfl, hf5, hb5⟩ := he.none
        obtain ⟨dk, dc, dta, dtn, dtcap, dka, dkn, dkcap, rfl⟩ := hf5.form
        have hba6 : Below w5.heap.size w5 (w5.alloc (.cells #[.int .i64 dk, .int .i64 dc, .slice dta dtn dtcap, .slice dka dkn dkcap] 27)) := (Below.refl _ _).alloc (Nat.le_refl _) _
        have hz5 := hb5.size
        have hb6 : Below wr.heap.size wr (w5.alloc (.cells #[.int .i64 dk, .int .i64 dc, .slice dta dtn dtcap, .slice dka dkn dkcap] 27)) := HBA.out.trans ((hb5.trans (hba6.mono hz5)).mono (by omega))
        have F6 := Lib.hid (hr.out.fb.below hb6 (by omega))
        have RT := Lib.hid (ret_set (m := 2) (f := .mk 0 0 [] []) (S := fun _ => False) F6.out (hb.trans (hb6.mono (Nat.le_of_lt bz))) flies_flat (fun b h => h.elim))
        clear hb5 hba6 hf5 hb6 hih HBA g0 g1 g2 g3
        obtain ⟨r0, r1, r2, r3, rf⟩ := F6.out
        go_wp2_with fail
        clear r0 r1 r2 r3 rf
        refine bodyPost_ret (v := .tuple #[.agg #[.int .i64 0, .int .i64 0, .slice none 0 0, .slice none 0 0], .iface 43 (.int .i64 3)]) ?_ rfl ⟨_, rfl, RT.out.lies.up (by omega), RT.out.bel⟩
        obtain ⟨_, _, e0, e1, e2, e3⟩ := RT.out
        simp [results, Tryd.results57, go_sem, e0, e1, e2, e3]
      | some g =>
        have hg := HKT.out k g hlt hn
        rw [hn] at hih
        have A2 : Hid (∀ j, j < k + 1 → (normF n (f.ks.getD j default) so).isSome = true) := fun j hj => by
          by_cases e : j = k
          · subst e; rw [hn]; rfl
          · exact hall.out j (by omega)
        clear HKT HI HSN HKL HK HJ HALL HBAD hn
        go_wp2_with fail
        refine hih.out.mono ?_
        intro e w5 he
        obtain ⟨cs5, rfl, hf5, hb5⟩ := he.some
        have HF5 := Lib.hid hf5
        obtain ⟨dk, dc, dta, dtn, dtcap, dka, dkn, dkcap, rfl⟩ := hf5.form
        have hba6 : Below w5.heap.size w5 (w5.alloc (.cells #[.int .i64 dk, .int .i64 dc, .slice dta dtn dtcap, .slice dka dkn dkcap] 27)) := (Below.refl _ _).alloc (Nat.le_refl _) _
        have hz5 := hb5.size
        have hz6 := hba6.size
        have hb6 : Below wr.heap.size wr (w5.alloc (.cells #[.int .i64 dk, .int .i64 dc, .slice dta dtn dtcap, .slice dka dkn dkcap] 27)) := HBA.out.trans ((hb5.trans (hba6.mono hz5)).mono (by omega))
        have HB6 := Lib.hid hb6
        have HF6 : Hid (FLiesQ (fun b => wr.heap.size ≤ b ∧ b < (w5.alloc (.cells #[.int .i64 dk, .int .i64 dc, .slice dta dtn dtcap, .slice dka dkn dkcap] 27)).heap.size) (w5.alloc (.cells #[.int .i64 dk, .int .i64 dc, .slice dta dtn dtcap, .slice dka dkn dkcap] 27)) (n + 2) (F.ks.getD k default) [.int .i64 dk, .int .i64 dc, .slice dta dtn dtcap, .slice dka dkn dkcap]) := by
          rw [hg]
          exact HF5.out.keep (fun b ⟨h1, h2⟩ => ⟨by omega, by omega⟩) (fun b o ⟨h1, h2⟩ => hba6.cell (p := ⟨b, o, none⟩) h2)
        obtain ⟨t0, t1, t2, t3⟩ := form_cells (heap_alloc_new w5 (.cells #[.int .i64 dk, .int .i64 dc, .slice dta dtn dtcap, .slice dka dkn dkcap] 27))
        have o3 : (w5.alloc (.cells #[.int .i64 dk, .int .i64 dc, .slice dta dtn dtcap, .slice dka dkn dkcap] 27)).cell? ⟨No, 3, none⟩ = some v := (hb6.cell (p := ⟨No, 3, none⟩) hzo).trans hr.out.ob.o3
        have hrw6 : ORow w.heap.size css v (w5.alloc (.cells #[.int .i64 dk, .int .i64 dc, .slice dta dtn dtcap, .slice dka dkn dkcap] 27)) := World.ownsRow.kept (row := none) hr.out.cs.row ⟨hb6.os, hb6.tape, hb6.output, hb6.size, fun q hq _ => hb6.block q hq⟩ (by cases v.ownBlock <;> simp)
        have hN5 : w5.heap.size < (w5.alloc (.cells #[.int .i64 dk, .int .i64 dc, .slice dta dtn dtcap, .slice dka dkn dkcap] 27)).heap.size := by simp
        clear hb5 hba6 hf5 hb6 hih HBA HF5 g0 g1 g2 g3
        generalize hW6 : w5.alloc (.cells #[.int .i64 dk, .int .i64 dc, .slice dta dtn dtcap, .slice dka dkn dkcap] 27) = W6 at HB6 HF6 t0 t1 t2 t3 o3 hrw6 hN5 hz6
        generalize hN : w5.heap.size = N5 at t0 t1 t2 t3 hN5 hz5 hz6
        have HRW : Hid (ORow w.heap.size css v (W6.alloc (.cells #[.int .i64 dk, .int .i64 dc, .slice dta dtn dtcap, .slice dka dkn dkcap] 27))) := World.ownsRow.alloc hrw6 _
        have NEWS := Lib.hid (four_new W6 (.int .i64 dk) (.int .i64 dc) (.slice dta dtn dtcap) (.slice dka dkn dkcap) 27 W6.heap.size rfl)
        have HBZ : Hid (w.heap.size ≤ (W6.alloc (.cells #[.int .i64 dk, .int .i64 dc, .slice dta dtn dtcap, .slice dka dkn dkcap] 27)).heap.size) := by show _ ≤ _; simp; omega
        have HCL : Hid (css.length ≤ 1048576) := HCLEN.out css (by rw [hr.out.cs.len]; exact hk)
        clear hrw6
        go_wp2_with (at_builtin; refine wpList_append_form rfl _ _ rfl w.heap.size v rfl css HRW.out ⟨W6.heap.size, 0, none⟩ 1 [.int .i64 dk, .int .i64 dc, .slice dta dtn dtcap, .slice dka dkn dkcap] rfl rfl NEWS.out (four_one _ _ _ _ _ _ _ _) HCL.out HBZ.out ?_)
        intro v8 w8 hrow8 hgrow8 hat8
        clear hW6 hN
        obtain ⟨a8, c8, hv8, -⟩ := hrow8.form
        rw [List.length_append, hr.out.cs.len] at hv8
        replace hv8 : v8 = .slice a8 (k + 1) c8 := hv8
        subst hv8
        have R8 := Lib.hid (hr.out.step HB6.out HF6.out hrow8 hgrow8 (by simpa using hat8))
        obtain ⟨o38, of8⟩ := hr.out.stored HB6.out hgrow8
        clear hz5 hz6 hN5 o3 t0 t1 t2 t3 hrow8 hgrow8 hat8 HB6 HF6 HRW NEWS HBZ HCL hr hall he hg hk56 Z4
        go_wp2_with fail
        clear o38 of8
        go_roundw
        case rel => exact ⟨k + 1, _, _, by omega, by go_num, A2, R8⟩
        case measure => simp [intOf]; omega
    · obtain rfl : k = len := by omega
      have hall' := HALL.out hall.out
      subst hall'
      obtain ⟨a9, cap9, rfl, hrt⟩ := hr.out.done HF.out.1 HF.out.2.1 HF.out.2.2.1 HF.out.2.2.2.symm hk20
      have RT := Lib.hid hrt
      have HRB := Lib.hid hr.out.rb
      obtain ⟨o0, o1, o2, o3, of⟩ := hr.out.ob
      clear hrt hr HALL HBAD HKT HI HSN HKL HK HJ HCLEN
      obtain ⟨r0, r1, r2, r3, rf⟩ := HRB.out
      go_wp2_with fail
      clear r0 r1 r2 r3 rf o0 o1 o2 o3 of
      refine bodyPost_ret (v := .tuple #[.agg #[.int .i64 J, .int .i64 0, .slice none 0 0, .slice a9 k cap9], .nilIface]) ?_ rfl ⟨_, rfl, RT.out.lies, RT.out.bel⟩
      obtain ⟨_, _, e0, e1, e2, e3⟩ := RT.out
      simp [results, Tryd.results57, go_sem, e0, e1, e2, e3]
end Go.Proofs.YtelndcmfddbgiaaDoor
