/- The document's Same, of one formula in two places. The walk of NormLiterals. What a formula becomes: its literals, the opposite, normalized. What the model knows of a formula's type. Copies of formulas: lists of terms and of formulas that the call makes. -/
import Derived.Test.YtelndcmfddbgiaaDoorCt04
import Derived.Test.YtelndcmfddbgiaaDoorCt06
import Derived.Test.YtelndcmfddbgiaaDoorCt07
import Derived.Test.YtelndcmfddbgiaaDoorCt17
import Derived.Test.YtelndcmfddbgiaaDoorCt28
import Derived.Test.YtelndcmfddbgiaaDoorCt33
import Derived.Test.YtelndcmfddbgiaaDoorCt34
import Derived.Deep.RegionHeld3
import Derived.OwnWalk
import Derived.Maps.AppendAt
import Derived.Maps.Range
import Derived.Deep.AppendLies
import Derived.Deep.DrawnRows
set_option linter.unusedVariables false
set_option linter.unusedSimpArgs false
namespace Go.Proofs.YtelndcmfddbgiaaDoor
open Go.RowKit


theorem same_self (c : Int) (l : List (Int × Int)) : same c c l l = true := by unfold same; simp

set_option maxRecDepth 100000 in
set_option maxHeartbeats 2000000 in
theorem same2_any : ∀ (n : Nat) (f : FT) (csa csb : List Value) (w : World), FLies w.heap.size w n f csa → FLies w.heap.size w n f csb →
    Calls Tryd.prog 19 #[.agg csa.toArray, .agg csb.toArray] w fun e w' => e = .returned (.bool true) ∧ Below w.heap.size w w'
  | 0, _, _, _, _, h, _ => h.elim
  | n + 1, f, csa, csb, w, ha, hb => by
    have IH := same2_any n
    obtain ⟨ta, tcap, ka, kcap, rfl, hlta, ht4, hk4, hksa⟩ := ha
    obtain ⟨tb, tcapb, kb, kcapb, rfl, hltb, _, _, hksb⟩ := hb
    have hsz : (w.alloc (.cells #[.int .i64 f.kind, .int .i64 f.c, .slice ta f.t.length tcap, .slice ka f.ks.length kcap] 27)).heap.size = w.heap.size + 1 := by simp
    have hbB := box_start (w.alloc (.cells #[.int .i64 f.kind, .int .i64 f.c, .slice ta f.t.length tcap, .slice ka f.ks.length kcap] 27)) f.kind f.c tb kb f.t.length tcapb f.ks.length kcapb
    rw [hsz] at hbB
    have B0 := Lib.hid (And.intro ((box_start w f.kind f.c ta ka f.t.length tcap f.ks.length kcap).below hbB.bel (Nat.lt_succ_self _)) hbB)
    have HS := Lib.hid (fun W (hb : Below w.heap.size w W) => same_any f.c f.c ta tb f.t.length f.t.length tcap tcapb f.t f.t W rfl rfl ht4 ht4 ((hlta.below hb).mono hb.size) ((hltb.below hb).mono hb.size))
    rw [same_self] at HS
    have HI := Lib.hid IH
    have HA := Lib.hid hksa
    have HB := Lib.hid hksb
    have e1 : (f.kind != f.kind) = false := by simp
    have e2 : ((f.ks.length : Int) != (f.ks.length : Int)) = false := by simp
    clear IH hksa hksb hlta hltb hsz hbB
    generalize f.kind = fk at B0 e1
    generalize f.c = fc at B0 HS
    generalize f.t.length = ft at B0 HS ht4
    generalize hl : f.ks.length = len at B0 HA HB hk4 e2
    clear hl
    generalize hw1 : w.alloc (.cells #[.int .i64 fk, .int .i64 fc, .slice ta ft tcap, .slice ka len kcap] 27) = w1 at B0
    have L0 := B0.out.2.lt
    obtain ⟨_, p0, p1, p2, p3, bela⟩ := B0.out.1
    obtain ⟨_, r0, r1, r2, r3, _⟩ := B0.out.2
    have BA := Lib.hid bela
    clear bela
    subst hw1
    go_enter Tryd.func19, Tryd.ntmps19
    go_wp2_with fail
    refine (HS.out _ BA.out).mono ?_
    rintro e w2 ⟨rfl, hb2⟩
    have T2 := Lib.hid (And.intro (B0.out.1.below hb2 (Nat.lt_of_succ_lt L0)) (B0.out.2.below hb2 L0))
    clear hb2 p0 p1 p2 p3 r0 r1 r2 r3 HS
    generalize w.alloc (.cells #[.int .i64 fk, .int .i64 fc, .slice ta ft tcap, .slice ka len kcap] 27) = w1 at B0 T2 BA
    go_wp2_with fail
    go_loopw [5] (fun i wr => ∃ (k : Nat), k ≤ len ∧ i = .int .i64 k ∧ Hid (Box w wr w.heap.size fk fc ta ft tcap ka len kcap ∧ Box w1 wr (w.heap.size + 1) fk fc tb ft tcapb kb len kcapb)) (fun i _ => len - (intOf i).toNat)
    case atStart => exact ⟨0, Nat.zero_le _, rfl, T2⟩
    case round =>
      obtain ⟨k, hk, rfl, hbx⟩ := hrel
      obtain ⟨bz, _, _, _, q3, hb⟩ := hbx.out.1
      obtain ⟨bz2, _, _, _, s3, _⟩ := hbx.out.2
      by_cases hlt : k < len
      · obtain ⟨ba, offa, c0, c1, c2, c3, rfl, hba, g0, g1, g2, g3, hfa⟩ := HA.out k hlt
        obtain ⟨bb, offb, d0, d1, d2, d3, rfl, hbb, h0, h1, h2, h3, hfb⟩ := HB.out k hlt
        rw [← hb.cell (p := ⟨ba, _, none⟩) hba] at g0 g1 g2 g3
        rw [← hb.cell (p := ⟨bb, _, none⟩) hbb] at h0 h1 h2 h3
        obtain ⟨ck, cc, cta, ctn, ctcap, cka, ckn, ckcap, rfl, rfl, rfl, rfl⟩ := hfa.form
        obtain ⟨dk, dc, dta, dtn, dtcap, dka, dkn, dkcap, rfl, rfl, rfl, rfl⟩ := hfb.form
        have HIH := Lib.hid (fun W (hb : Below w.heap.size w W) => HI.out (f.ks.getD k default) _ _ W ((hfa.below hb).mono hb.size) ((hfb.below hb).mono hb.size))
        have K5 : Hid (∀ W' : World, (∀ b' o, b' ≤ w.heap.size + 1 → W'.cell? ⟨b', o, none⟩ = wr.cell? ⟨b', o, none⟩) → W'.cell? ⟨w.heap.size, 3, none⟩ = some (.slice (some ⟨ba, offa, none⟩) len kcap) ∧ W'.cell? ⟨w.heap.size + 1, 3, none⟩ = some (.slice (some ⟨bb, offb, none⟩) len kcapb) ∧
            W'.cell? ⟨ba, offa + k * 4, none⟩ = some (.int .i64 ck) ∧ W'.cell? ⟨ba, offa + k * 4 + 1, none⟩ = some (.int .i64 cc) ∧ W'.cell? ⟨ba, offa + k * 4 + 2, none⟩ = some (.slice cta ctn ctcap) ∧ W'.cell? ⟨ba, offa + k * 4 + 3, none⟩ = some (.slice cka ckn ckcap) ∧
            W'.cell? ⟨bb, offb + k * 4, none⟩ = some (.int .i64 dk) ∧ W'.cell? ⟨bb, offb + k * 4 + 1, none⟩ = some (.int .i64 dc) ∧ W'.cell? ⟨bb, offb + k * 4 + 2, none⟩ = some (.slice dta dtn dtcap) ∧ W'.cell? ⟨bb, offb + k * 4 + 3, none⟩ = some (.slice dka dkn dkcap)) :=
          fun W' h => ⟨(h _ _ (by omega)).trans q3, (h _ _ (by omega)).trans s3, (h _ _ (by omega)).trans g0, (h _ _ (by omega)).trans g1, (h _ _ (by omega)).trans g2, (h _ _ (by omega)).trans g3, (h _ _ (by omega)).trans h0, (h _ _ (by omega)).trans h1, (h _ _ (by omega)).trans h2, (h _ _ (by omega)).trans h3⟩
        clear hfa hfb
        go_wp2_with fail
        go_region_held3 (fun W' => W'.cell? ⟨w.heap.size, 3, none⟩ = some (.slice (some ⟨ba, offa, none⟩) len kcap) ∧ W'.cell? ⟨w.heap.size + 1, 3, none⟩ = some (.slice (some ⟨bb, offb, none⟩) len kcapb) ∧
            W'.cell? ⟨ba, offa + k * 4, none⟩ = some (.int .i64 ck) ∧ W'.cell? ⟨ba, offa + k * 4 + 1, none⟩ = some (.int .i64 cc) ∧ W'.cell? ⟨ba, offa + k * 4 + 2, none⟩ = some (.slice cta ctn ctcap) ∧ W'.cell? ⟨ba, offa + k * 4 + 3, none⟩ = some (.slice cka ckn ckcap) ∧
            W'.cell? ⟨bb, offb + k * 4, none⟩ = some (.int .i64 dk) ∧ W'.cell? ⟨bb, offb + k * 4 + 1, none⟩ = some (.int .i64 dc) ∧ W'.cell? ⟨bb, offb + k * 4 + 2, none⟩ = some (.slice dta dtn dtcap) ∧ W'.cell? ⟨bb, offb + k * 4 + 3, none⟩ = some (.slice dka dkn dkcap))
          (first
            | with_reducible exact T5.out
            | go_keep)
          (first
            | (go_at_call 19
               refine (HIH.out _ hb.drew).mono ?_
               rintro e w5 ⟨rfl, hb5⟩
               have HB5 : Hid (Below wr.heap.size wr w5) := (Below.refl _ wr).drew.trans hb5
               have T5 := Lib.hid (K5.out w5 (fun b' o h => HB5.out.cell (p := ⟨b', o, none⟩) (by show b' < _; omega)))))
        have BX5 := Lib.hid (And.intro (hbx.out.1.below HB5.out bz) (hbx.out.2.below HB5.out bz2))
        clear g0 g1 g2 g3 h0 h1 h2 h3 q3 s3 T5 HIH K5 hb5
        go_wp2_with fail
        go_roundw
        case rel => exact ⟨k + 1, by omega, by go_num, BX5⟩
        case measure => simp [intOf]; omega
      · go_wp2_with fail
        go_ret
        exact ⟨rfl, hb⟩
end Go.Proofs.YtelndcmfddbgiaaDoor

namespace Go.Proofs.YtelndcmfddbgiaaDoor
open Go.RowKit

theorem form_cells {W : World} {b : Nat} {x0 x1 x2 x3 : Value} (h : W.heap[b]? = some (.cells #[x0, x1, x2, x3] 27 (0, 0))) : W.cell? ⟨b, 0, none⟩ = some x0 ∧ W.cell? ⟨b, 1, none⟩ = some x1 ∧ W.cell? ⟨b, 2, none⟩ = some x2 ∧ W.cell? ⟨b, 3, none⟩ = some x3 :=
  ⟨(cell_of_row _ _ _ _ _ _ h).trans rfl, (cell_of_row _ _ _ _ _ _ h).trans rfl, (cell_of_row _ _ _ _ _ _ h).trans rfl, (cell_of_row _ _ _ _ _ _ h).trans rfl⟩

end Go.Proofs.YtelndcmfddbgiaaDoor

namespace Go.Proofs.YtelndcmfddbgiaaDoor
open Go.RowKit

/-- A form's literal. -/
def litT (c : Int) (l : List (Int × Int)) : FT :=
  if snd c l = true then
    if l.length = 0 then .mk (if c ≤ 0 then 0 else 1) 0 [] []
    else if 0 < (l.getD 0 (0, 0)).2.tdiv (gAt l l.length) then .mk 2 (upI c (gAt l l.length)) (redL (gAt l l.length) l) []
    else if wi (1 - upI c (gAt l l.length)) 1073741824 = true then .mk 4 0 [] [.mk 2 (1 - upI c (gAt l l.length)) (scale (-1) (redL (gAt l l.length) l)) []]
    else .mk 0 0 [] []
  else .mk 0 0 [] []
/-- What is amiss with it. -/
def litK (c : Int) (l : List (Int × Int)) : Int :=
  if snd c l = true then
    if l.length = 0 then 0
    else if 0 < (l.getD 0 (0, 0)).2.tdiv (gAt l l.length) then 0
    else if wi (1 - upI c (gAt l l.length)) 1073741824 = true then 0
    else 3
  else 5
theorem litK_sound {c : Int} {l : List (Int × Int)} (h : snd c l = true) : litK c l = 0 ∨ litK c l = 3 := by
  unfold litK
  rw [if_pos h]
  split
  · exact .inl rfl
  · split
    · exact .inl rfl
    · split
      · exact .inl rfl
      · exact .inr rfl

/-- The literals. -/
inductive IsLit : FT → Prop where
  | yes : IsLit (.mk 0 0 [] [])
  | no : IsLit (.mk 1 0 [] [])
  | le (c : Int) (t : List (Int × Int)) : IsLit (.mk 2 c t [])
  | not (c : Int) (t : List (Int × Int)) : IsLit (.mk 4 0 [] [.mk 2 c t []])
theorem litT_is (c : Int) (l : List (Int × Int)) : IsLit (litT c l) := by
  unfold litT
  split
  · split
    · split
      · exact .yes
      · exact .no
    · split
      · exact .le _ _
      · split
        · exact .not _ _
        · exact .yes
  · exact .yes
/-- A literal's opposite. -/
def oppF : FT → FT
  | .mk k c t ks => if k = 0 then .mk 1 0 [] [] else if k = 1 then .mk 0 0 [] [] else if k = 4 then ks.getD 0 default else .mk 4 0 [] [.mk k c t ks]
theorem oppF_is {f : FT} (h : IsLit f) : IsLit (oppF f) := by
  cases h with
  | yes => exact .no
  | no => exact .yes
  | le c t => exact .not c t
  | not c t => exact .le c t

/-- The pair for a list: all kids', or none. -/
def bothT (f : FT) (so : Bool) : Option FT :=
  if litK f.c f.t = 0 then
    if litK (-f.c) (scale (-1) f.t) = 0 then
      some (if so then .mk 5 0 [] [litT f.c f.t, litT (-f.c) (scale (-1) f.t)] else .mk 6 0 [] [oppF (litT f.c f.t), oppF (litT (-f.c) (scale (-1) f.t))])
    else none
  else none
/-- Normalized, or, if it isn't so, normalized as not; none: a literal is too far. -/
def normF : Nat → FT → Bool → Option FT
  | 0, _, _ => none
  | n + 1, f, so =>
    if f.kind = 0 ∨ f.kind = 1 then some (if so then .mk f.kind 0 [] [] else oppF (.mk f.kind 0 [] []))
    else if f.kind = 2 then (if litK f.c f.t = 0 then some (if so then litT f.c f.t else oppF (litT f.c f.t)) else none)
    else if f.kind = 3 then bothT f so
    else if f.kind = 4 then normF n (f.ks.getD 0 default) (!so)
    else if (f.ks.all fun k => (normF n k so).isSome) = true then some (.mk (if so then f.kind else 11 - f.kind) 0 [] (f.ks.map fun k => (normF n k so).getD default))
    else none
/-- The formula that a list's rounds make. -/
def kidsT (n : Nat) (f : FT) (so : Bool) : FT := .mk (if so then f.kind else 11 - f.kind) 0 [] (f.ks.map fun k => (normF n k so).getD default)
theorem kidsT_get {n : Nat} {f : FT} {so : Bool} {j : Nat} {g : FT} (hj : j < f.ks.length) (h : normF n (f.ks.getD j default) so = some g) : (kidsT n f so).ks.getD j default = g := by
  show (f.ks.map fun k => (normF n k so).getD default).getD j default = g
  rw [List.getD_eq_getElem?_getD, List.getElem?_eq_getElem hj] at h
  simp only [Option.getD_some] at h
  simp [List.getD_eq_getElem?_getD, hj, h]
theorem kidsT_len (n : Nat) (f : FT) (so : Bool) : (kidsT n f so).ks.length = f.ks.length := by
  show (f.ks.map _).length = _
  rw [List.length_map]

/-- More layers. -/
theorem FLiesQ.up {S : Nat → Prop} {w : World} : ∀ {n m : Nat} {f : FT} {cs : List Value}, FLiesQ S w n f cs → n ≤ m → FLiesQ S w m f cs
  | 0, _, _, _, h, _ => h.elim
  | n + 1, 0, _, _, _, hm => absurd hm (by omega)
  | n + 1, m + 1, f, cs, ⟨ta, tcap, ka, kcap, h1, h2, h3, h4, h5⟩, hm => ⟨ta, tcap, ka, kcap, h1, h2, h3, h4, fun i hi => by
    obtain ⟨b, off, c0, c1, c2, c3, e, hb, g0, g1, g2, g3, hf⟩ := h5 i hi
    exact ⟨b, off, c0, c1, c2, c3, e, hb, g0, g1, g2, g3, hf.up (by omega)⟩⟩

/-- What normalizing answers. -/
def NormEnd (B m : Nat) (o : Option FT) (x y : Value) (w : World) (e : Ending) (w' : World) : Prop :=
  ∃ cs, e = .returned (.tuple #[.agg cs.toArray, if o.isSome then x else y]) ∧ FLiesQ (fun b => B ≤ b ∧ b < w'.heap.size) w' m (o.getD (.mk 0 0 [] [])) cs ∧ Below B w w'

/-- A form's literal, by the program. -/
theorem lit_code (c : Int) (a : Option Addr) (n cap : Nat) (l : List (Int × Int)) (w : World) (hn : l.length = n) (hm : n ≤ 9223372036854775807) (hl : Lies w.heap.size w a l) :
    Calls Tryd.prog 68 #[.agg #[.int .i64 c, .slice a n cap]] w (LitEnd w.heap.size (litT c l) (codeV (litK c l)) w) := by
  unfold litT litK
  by_cases hs : snd c l = true
  · rw [if_pos hs, if_pos hs]
    by_cases h0 : n = 0
    · subst h0
      obtain rfl : l = [] := List.eq_nil_of_length_eq_zero hn
      exact literal_none c a cap w hs _ rfl
    · have h0' : 0 < n := by omega
      subst hn
      rw [if_neg h0, if_neg h0]
      by_cases hp : 0 < (l.getD 0 (0, 0)).2.tdiv (gAt l l.length)
      · rw [if_pos hp, if_pos hp]
        refine (literal_pos c a _ cap l w rfl hl hs h0' hp).mono fun e w' h => ?_
        obtain ⟨v, rfl, hrow, hbl⟩ := h
        obtain ⟨a3, cap3, rfl, hl3⟩ := hrow.liesQ
        have h64 := (snd_iff.1 hs).2.1
        exact ⟨_, rfl, flies_leafS (by rw [redL_len]; omega) hl3, hbl⟩
      · rw [if_neg hp, if_neg hp]
        by_cases hw : wi (1 - upI c (gAt l l.length)) 1073741824 = true
        · rw [if_pos hw, if_pos hw]
          exact (literal_neg c a _ cap l w rfl hl hs h0' hp).1 hw
        · rw [if_neg hw, if_neg hw]
          rw [Bool.not_eq_true] at hw
          exact (literal_neg c a _ cap l w rfl hl hs h0' hp).2 hw
  · rw [if_neg hs, if_neg hs]
    rw [Bool.not_eq_true] at hs
    exact literal_bad c a n cap l w hn hm hl hs
end Go.Proofs.YtelndcmfddbgiaaDoor

namespace Go.Proofs.YtelndcmfddbgiaaDoor
open Go.RowKit

theorem Tryd.infoForm : (Tryd.prog.info? 27).map (fun i => (i.zero, i.size, i.bytes)) = some (some (.agg #[.int .i64 0, .int .i64 0, .slice none 0 0, .slice none 0 0]), 4, 64) := by kernel_rfl
end Go.Proofs.YtelndcmfddbgiaaDoor

namespace Go.Proofs.YtelndcmfddbgiaaDoor
open Go.RowKit

theorem run_append_none {P : Program} (w : World) (base : Nat) (t ty e : TypeId) (i : TypeInfo) (size : Nat) (ht : P.underlying t = some (.slice e)) (hi : P.info? e = some i)
    (v : Value) (n : Nat) (xs : List Value) (hown : w.ownsRow base e size v n xs) (c : Nat) :
    (Builtin.append_ #[t, t] ty #[v, .slice none 0 c]).run P w = .ok v w := by
  rcases hown.2 with ⟨rfl, rfl⟩ | ⟨g, cap, cur, rfl, _, _, hnc, _⟩
  · simp [Builtin.append_, run_underlying ht, sizeOf, typeInfo, hi, Builtin.lenOf, Builtin.firstCells]
  · simp [Builtin.append_, run_underlying ht, sizeOf, typeInfo, hi, Builtin.lenOf, Builtin.firstCells, hnc, storeCells]

/-- append of a list that lies somewhere to an own empty one, in a drawn region. -/
theorem step_append_src {w : World} {ops : Array Oper} {o : Oper} {a : Act} {K : Act → World → Prop} {Q : Exit → Act → World → Prop} {E : Prop} (hgd : o.guard = none) (s x : Operand)
    (ho : o.op = .call { callee := .builtin .append, args := #[s, x], argTypes := #[22, 22] })
    (B Bx : Nat) (v : Value) (hs : a.eval s = v) (h : Row B [] v w) (ad : Option Addr) (n cap : Nat) (l : List (Int × Int)) (hx : a.eval x = .slice ad n cap) (hl : Lies Bx w ad l) (hn : l.length = n)
    (hbytes : n * 16 ≤ 140737488351232) (hB : B ≤ w.heap.size)
    (hK : ∀ a' cap' w', Row B l (.slice a' n cap') w' → w.grownBy w' v.ownBlock → ((Value.slice a' n cap').ownBlock = v.ownBlock ∨ (Value.slice a' n cap').ownBlock = some w.heap.size) → K (a.put o.dst (.slice a' n cap')) w') :
    if Region.wanted o (yielded ops a.tmps) = true then Oper.wp Tryd.prog o a w K Q else E := by
  have hw : Region.wanted o (yielded ops a.tmps) = true := by simp [Region.wanted, hgd]
  rw [if_pos hw]
  obtain ⟨i0, hi, hz0, hz1, hz2⟩ := info_parts Tryd.infoMono
  obtain ⟨v', w', hr, h3, h4, h5⟩ : ∃ v' w', (Builtin.append_ #[22, 22] o.type #[v, .slice ad n cap]).run Tryd.prog w = .ok v' w' ∧ Row B l v' w' ∧ w.grownBy w' v.ownBlock ∧ (v'.ownBlock = v.ownBlock ∨ v'.ownBlock = some w.heap.size) := by
    cases ad with
    | none =>
      have h0 : l = [] := by
        cases l with
        | nil => rfl
        | cons m r =>
          obtain ⟨_, _, e, _⟩ := hl 0 (by simp)
          cases e
      subst h0
      obtain rfl : n = 0 := by simpa using hn.symm
      exact ⟨v, w, run_append_none w B _ o.type _ i0 2 Tryd.underlying22 hi v _ _ h cap, h, World.grownBy.refl w _, .inl rfl⟩
    | some ad =>
      obtain ⟨v', w', hr, h3, h4, _, h6⟩ := run_append_own_at w B 22 o.type 57 i0 _ 2 16 Tryd.underlying22 hi hz0 hz1 hz2 rfl (by decide) v 0 [] h ad n cap (flat l) (by rw [flat_len, hn]) hl.news (flat_cells l) (by unfold maxLen; omega) (by omega) hB
      refine ⟨v', w', hr, ?_, h4, h6⟩
      unfold Row
      rw [hn]
      simpa using h3
  obtain ⟨a', cap', rfl, _, _⟩ := h3.lies
  rw [hn] at hr h3 h5
  unfold Oper.wp execOp
  simp only [ho, resolve, invoke, builtin, Sem.run_bind, Sem.run_pure, Result.andThen_ok, List.map_toArray, List.map_cons, List.map_nil, hs, hx, hr]
  exact hK _ _ _ h3 h4 h5

/-- A list of formulas' cells of the call's own. -/
def ORow (B : Nat) (css : List (List Value)) (v : Value) (w : World) : Prop := w.ownsRow B 27 4 v css.length css.flatten

theorem step_append_form {w : World} {ops : Array Oper} {o : Oper} {a : Act} {K : Act → World → Prop} {Q : Exit → Act → World → Prop} {E : Prop} (hgd : o.guard = none) (s x : Operand)
    (ho : o.op = .call { callee := .builtin .append, args := #[s, x], argTypes := #[25, 25] })
    (B : Nat) (v : Value) (hs : a.eval s = v) (css : List (List Value)) (h : ORow B css v w) (ad : Addr) (cap : Nat) (cs : List Value) (hx : a.eval x = .slice (some ad) 1 cap) (hcs : cs.length = 4)
    (hnews : ∀ j u, cs[j]? = some u → w.cell? (ad.add j) = some u) (h1 : ∀ u ∈ cs, u.oneCell' = true) (hlen : css.length ≤ 1048576) (hB : B ≤ w.heap.size)
    (hK : ∀ v' w', ORow B (css ++ [cs]) v' w' → w.grownBy w' v.ownBlock → (v'.ownBlock = v.ownBlock ∨ v'.ownBlock = some w.heap.size) → K (a.put o.dst v') w') :
    if Region.wanted o (yielded ops a.tmps) = true then Oper.wp Tryd.prog o a w K Q else E := by
  have hw : Region.wanted o (yielded ops a.tmps) = true := by simp [Region.wanted, hgd]
  rw [if_pos hw]
  obtain ⟨i0, hi, hz0, hz1, hz2⟩ := info_parts Tryd.infoForm
  obtain ⟨v', w', hr, h3, h4, _, h5⟩ := run_append_own_at w B 25 o.type 27 i0 _ 4 64 Tryd.underlying25 hi hz0 hz1 hz2 rfl (by decide) v css.length css.flatten h ad 1 cap cs (by rw [hcs]) hnews h1 (by unfold maxLen; omega) (by omega) hB
  unfold Oper.wp execOp
  simp only [ho, resolve, invoke, builtin, Sem.run_bind, Sem.run_pure, Result.andThen_ok, List.map_toArray, List.map_cons, List.map_nil, hs, hx, hr]
  refine hK _ _ ?_ h4 h5
  unfold ORow
  rw [List.length_append, List.flatten_append, List.flatten_singleton]
  exact h3
theorem row_fresh (B : Nat) (W : World) (N : Nat) (hN : W.heap.size = N) (hB : B ≤ N) : Row B [] (.slice (some ⟨N, 0, none⟩) 0 0) (W.alloc (.cells #[] 57)).drew := by
  subst hN
  have h : (W.alloc (.cells #[] 57)).ownsRow B 57 2 (.slice (some ⟨W.heap.size, 0, none⟩) 0 0) 0 [] := World.ownsRow_made W #[] 0 hB (by decide) rfl
  exact h
end Go.Proofs.YtelndcmfddbgiaaDoor
