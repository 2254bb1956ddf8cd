/- Formulas in blocks of a kind. The statements' own weighing of a formula: what is light has few parts. What the model knows of a formula's type. Copies of formulas: lists of terms and of formulas that the call makes. -/
import Derived.Test.YtelndcmfddbgiaaDoorCs04
import Derived.Test.YtelndcmfddbgiaaDoorCs06
import Derived.Test.YtelndcmfddbgiaaDoorCs12
import Derived.OwnWalk
import Derived.Maps.AppendAt
import Derived.Maps.Range
import Derived.Deep.RegionHeld3
import Derived.Deep.AppendLies
import Derived.Deep.DrawnRows
set_option linter.unusedVariables false
set_option linter.unusedSimpArgs false
namespace Go.Proofs.YtelndcmfddbgiaaDoor
open Go.RowKit

def LiesQ (S : Nat → Prop) (w : World) (a : Option Addr) (l : List (Int × Int)) : Prop :=
  ∀ i, i < l.length → ∃ b off, a = some ⟨b, off, none⟩ ∧ S b ∧ w.cell? ⟨b, off + i * 2, none⟩ = some (.int .i64 (l.getD i (0, 0)).1) ∧ w.cell? ⟨b, off + i * 2 + 1, none⟩ = some (.int .i64 (l.getD i (0, 0)).2)
/-- A formula lies in memory, in blocks of a kind. -/
def FLiesQ (S : Nat → Prop) (w : World) : Nat → FT → List Value → Prop
  | 0, _, _ => False
  | n + 1, f, cs => ∃ (ta : Option Addr) (tcap : Nat) (ka : Option Addr) (kcap : Nat), cs = [.int .i64 f.kind, .int .i64 f.c, .slice ta f.t.length tcap, .slice ka f.ks.length kcap] ∧
      LiesQ S w ta f.t ∧ f.t.length ≤ 9223372036854775807 ∧ f.ks.length ≤ 9223372036854775807 ∧
      ∀ i, i < f.ks.length → ∃ b off c0 c1 c2 c3, ka = some ⟨b, off, none⟩ ∧ S b ∧ w.cell? ⟨b, off + i * 4, none⟩ = some c0 ∧ w.cell? ⟨b, off + i * 4 + 1, none⟩ = some c1 ∧ w.cell? ⟨b, off + i * 4 + 2, none⟩ = some c2 ∧ w.cell? ⟨b, off + i * 4 + 3, none⟩ = some c3 ∧
        FLiesQ S w n (f.ks.getD i default) [c0, c1, c2, c3]
theorem LiesQ.lies {S : Nat → Prop} {w : World} {B : Nat} {a : Option Addr} {l : List (Int × Int)} (hS : ∀ b, S b → b < B) (h : LiesQ S w a l) : Lies B w a l := fun i hi => by
  obtain ⟨b, off, e, hb, r⟩ := h i hi
  exact ⟨b, off, e, hS b hb, r⟩
theorem FLiesQ.lies {S : Nat → Prop} {w : World} {B : Nat} (hS : ∀ b, S b → b < B) : ∀ {n : Nat} {f : FT} {cs : List Value}, FLiesQ S w n f cs → FLies B w n f cs
  | 0, _, _, h => h
  | n + 1, f, cs, ⟨ta, tcap, ka, kcap, h1, h2, h3, h4, h5⟩ => ⟨ta, tcap, ka, kcap, h1, h2.lies hS, h3, h4, fun i hi => by
    obtain ⟨b, off, c0, c1, c2, c3, e, hb, g0, g1, g2, g3, hf⟩ := h5 i hi
    exact ⟨b, off, c0, c1, c2, c3, e, hS b hb, g0, g1, g2, g3, hf.lies hS⟩⟩
theorem LiesQ.keep {S S' : Nat → Prop} {w w' : World} {a : Option Addr} {l : List (Int × Int)} (hS : ∀ b, S b → S' b) (hk : ∀ b o, S b → w'.cell? ⟨b, o, none⟩ = w.cell? ⟨b, o, none⟩) (h : LiesQ S w a l) : LiesQ S' w' a l := fun i hi => by
  obtain ⟨b, off, e, hb, r1, r2⟩ := h i hi
  exact ⟨b, off, e, hS b hb, (hk _ _ hb).trans r1, (hk _ _ hb).trans r2⟩
theorem FLiesQ.keep {S S' : Nat → Prop} {w w' : World} (hS : ∀ b, S b → S' b) (hk : ∀ b o, S b → w'.cell? ⟨b, o, none⟩ = w.cell? ⟨b, o, none⟩) : ∀ {n : Nat} {f : FT} {cs : List Value}, FLiesQ S w n f cs → FLiesQ S' w' n f cs
  | 0, _, _, h => h
  | n + 1, f, cs, ⟨ta, tcap, ka, kcap, h1, h2, h3, h4, h5⟩ => ⟨ta, tcap, ka, kcap, h1, h2.keep hS hk, h3, h4, fun i hi => by
    obtain ⟨b, off, c0, c1, c2, c3, e, hb, g0, g1, g2, g3, hf⟩ := h5 i hi
    exact ⟨b, off, c0, c1, c2, c3, e, hS b hb, (hk _ _ hb).trans g0, (hk _ _ hb).trans g1, (hk _ _ hb).trans g2, (hk _ _ hb).trans g3, hf.keep hS hk⟩⟩
theorem FLiesQ.four {S : Nat → Prop} {w : World} : ∀ {n : Nat} {f : FT} {cs : List Value}, FLiesQ S w n f cs → ∃ c0 c1 c2 c3, cs = [c0, c1, c2, c3]
  | 0, _, _, h => h.elim
  | _ + 1, _, _, ⟨_, _, _, _, h1, _⟩ => ⟨_, _, _, _, h1⟩

/-- Cells, four by four. -/
theorem flat4_len : ∀ (css : List (List Value)), (∀ c ∈ css, c.length = 4) → css.flatten.length = css.length * 4
  | [], _ => rfl
  | c :: r, h => by
    have h1 := h c (by simp)
    have h2 := flat4_len r (fun x hx => h x (by simp [hx]))
    simp only [List.flatten_cons, List.length_append, List.length_cons, h1, h2]
    omega
theorem flat4_get : ∀ (css : List (List Value)), (∀ c ∈ css, c.length = 4) → ∀ i j, i < css.length → j < 4 → css.flatten[i * 4 + j]? = (css.getD i [])[j]?
  | [], _, i, _, hi, _ => absurd hi (Nat.not_lt_zero i)
  | c :: r, h, 0, j, _, hj => by
    have h1 := h c (by simp)
    rw [List.flatten_cons, Nat.zero_mul, Nat.zero_add, List.getElem?_append_left (by omega)]
    rfl
  | c :: r, h, i + 1, j, hi, hj => by
    have h1 := h c (by simp)
    rw [List.flatten_cons, List.getElem?_append_right (by omega), show (i + 1) * 4 + j - c.length = i * 4 + j by omega, flat4_get r (fun x hx => h x (by simp [hx])) i j (by simpa using hi) hj]
    rfl
end Go.Proofs.YtelndcmfddbgiaaDoor

namespace Go.Proofs.YtelndcmfddbgiaaDoor
open Go.RowKit

/-- Few parts at each place. -/
def litF : Nat → FT → Prop
  | 0, _ => False
  | n + 1, f => f.t.length ≤ 1048576 ∧ f.ks.length ≤ 1048576 ∧ ∀ i, i < f.ks.length → litF n (f.ks.getD i default)
/-- An answer that is some number from -1 up to a bound; from 0 on the formula has few parts. -/
def SomeL (L : Prop) (B : Nat) (m : Int) (w : World) (e : Ending) (w' : World) : Prop := ∃ v : Int, e = .returned (.int .i64 v) ∧ -1 ≤ v ∧ v ≤ m ∧ (0 ≤ v → L) ∧ Below B w w'

set_option maxRecDepth 100000 in
set_option maxHeartbeats 1600000 in
theorem litn_any : ∀ (n : Nat) (f : FT) (cs : List Value) (m d : Int) (w : World), 0 ≤ m → m ≤ 1048576 → 0 ≤ d → d ≤ 1048576 → FLies w.heap.size w n f cs →
    Calls Tryd.prog 20 #[.agg cs.toArray, .int .i64 m, .int .i64 d] w (SomeL (litF n f) w.heap.size m w)
  | 0, _, _, _, _, _, _, _, _, _, h => h.elim
  | n + 1, f, cs, m, d, w, h0, h1, d0, d1, h => by
    have IH := litn_any n
    obtain ⟨ta, tcap, ka, kcap, rfl, _, ht4, hk4, hks⟩ := h
    have HI := Lib.hid IH
    have HK := Lib.hid hks
    have B0 := Lib.hid (box_start w f.kind f.c ta ka f.t.length tcap f.ks.length kcap)
    have HLT : Hid (f.t.length ≤ 1048576 → f.ks.length ≤ 1048576 → (∀ i, i < f.ks.length → litF n (f.ks.getD i default)) → litF (n + 1) f) := fun h1 h2 h3 => ⟨h1, h2, h3⟩
    clear IH hks
    generalize f.kind = fk at B0
    generalize f.c = fc at B0
    generalize f.t.length = ft at B0 ht4 HLT
    generalize hl : f.ks.length = len at B0 HK hk4 HLT
    clear hl
    have hno : ∀ r : Int, r = -1 → Hid (SomeL (litF (n + 1) f) w.heap.size m w (.returned (.int .i64 r)) (w.alloc (.cells #[.int .i64 fk, .int .i64 fc, .slice ta ft tcap, .slice ka len kcap] 27))) := fun r hr => ⟨r, rfl, by omega, by omega, fun h => by omega, B0.out.bel⟩
    by_cases hd : d = 0
    · have e1 : (d == 0) = true := by simpa using hd
      have hn := hno _ rfl
      clear hno HI HK hd
      go_enter Tryd.func20, Tryd.ntmps20
      go_wp2_with fail
      go_ret
      exact hn.out
    · have e1 : (d == 0) = false := by simpa using hd
      by_cases hm : m = 0
      · have e2 : decide (m - 1 < 0) = true := by simp; omega
        have hn := hno _ rfl
        clear hno HI HK hd
        go_enter Tryd.func20, Tryd.ntmps20
        go_wp2_with fail
        go_ret
        exact hn.out
      · have e2 : ¬ m - 1 < 0 := by omega
        by_cases ht : m - 1 < (ft : Int)
        · have hn := hno _ rfl
          clear hno HI HK hd
          go_enter Tryd.func20, Tryd.ntmps20
          go_wp2_with fail
          go_ret
          exact hn.out
        · by_cases hk : m - 1 < (len : Int)
          · have hn := hno _ rfl
            clear hno HI HK hd
            go_enter Tryd.func20, Tryd.ntmps20
            go_wp2_with fail
            go_ret
            exact hn.out
          · clear hno
            go_enter Tryd.func20, Tryd.ntmps20
            go_wp2_with fail
            go_loopw [1, 7] (fun s i wr => ∃ (k : Nat) (v : Int), k ≤ len ∧ i = .int .i64 k ∧ s = .int .i64 v ∧ 0 ≤ v ∧ v ≤ m - 1 ∧ Hid (∀ j, j < k → litF n (f.ks.getD j default)) ∧ Hid (Box w wr w.heap.size fk fc ta ft tcap ka len kcap)) (fun _ i _ => len - (intOf i).toNat)
            case atStart => exact ⟨0, m - 1 - ft, Nat.zero_le _, rfl, rfl, by omega, by omega, fun j hj => absurd hj (Nat.not_lt_zero j), B0⟩
            case round =>
              obtain ⟨k, v, hkk, rfl, rfl, hv1, hv2, hlit, hbx⟩ := hrel
              obtain ⟨bz, _, _, _, q3, hb⟩ := hbx.out
              by_cases hlt : k < len
              · obtain ⟨b, off, c0, c1, c2, c3, rfl, hblt, g0, g1, g2, g3, hf⟩ := HK.out k hlt
                rw [← hb.cell (p := ⟨b, _, none⟩) hblt] at g0 g1 g2 g3
                obtain ⟨ck, cc, cta, ctn, ctcap, cka, ckn, ckcap, rfl, rfl, rfl, rfl⟩ := hf.form
                have hih := HI.out (f.ks.getD k default) _ v (d - 1) wr (by omega) (by omega) (by omega) (by omega) ((hf.below hb).mono hb.size)
                clear hf
                go_wp2_with fail
                refine hih.mono ?_
                rintro e w1 ⟨u, rfl, hu1, hu2, hul, hb1⟩
                have HB1 := Lib.hid (hbx.out.below hb1 bz)
                clear g0 g1 g2 g3 hih hb1 hb hbx q3
                by_cases hun : u < 0
                · go_wp2_with fail
                  go_ret
                  exact ⟨-1, rfl, by omega, by omega, fun h => by omega, HB1.out.bel⟩
                · have hlit2 : Hid (∀ j, j < k + 1 → litF n (f.ks.getD j default)) := fun j hj => by
                    by_cases ej : j = k
                    · rw [ej]; exact hul (by omega)
                    · exact hlit.out j (by omega)
                  clear hul hlit
                  go_wp2_with fail
                  go_roundw
                  case rel => exact ⟨k + 1, u, by omega, by go_num, rfl, by omega, by omega, hlit2, HB1⟩
                  case measure => simp [intOf]; omega
              · clear HI HK
                go_wp2_with fail
                go_ret
                exact ⟨v, rfl, by omega, by omega, fun _ => HLT.out (by omega) (by omega) (fun i hi => hlit.out i (by omega)), hb⟩


end Go.Proofs.YtelndcmfddbgiaaDoor

namespace Go.Proofs.YtelndcmfddbgiaaDoor
open Go.RowKit

theorem Tryd.infoForm : (Tryd.prog.info? 27).map (fun i => (i.zero, i.size, i.bytes)) = some (some (.agg #[.int .i64 0, .int .i64 0, .slice none 0 0, .slice none 0 0]), 4, 64) := by kernel_rfl
end Go.Proofs.YtelndcmfddbgiaaDoor

namespace Go.Proofs.YtelndcmfddbgiaaDoor
open Go.RowKit

theorem run_append_none {P : Program} (w : World) (base : Nat) (t ty e : TypeId) (i : TypeInfo) (size : Nat) (ht : P.underlying t = some (.slice e)) (hi : P.info? e = some i)
    (v : Value) (n : Nat) (xs : List Value) (hown : w.ownsRow base e size v n xs) (c : Nat) :
    (Builtin.append_ #[t, t] ty #[v, .slice none 0 c]).run P w = .ok v w := by
  rcases hown.2 with ⟨rfl, rfl⟩ | ⟨g, cap, cur, rfl, _, _, hnc, _⟩
  · simp [Builtin.append_, run_underlying ht, sizeOf, typeInfo, hi, Builtin.lenOf, Builtin.firstCells]
  · simp [Builtin.append_, run_underlying ht, sizeOf, typeInfo, hi, Builtin.lenOf, Builtin.firstCells, hnc, storeCells]

/-- append of a list that lies somewhere to an own empty one, in a drawn region. -/
theorem step_append_src {w : World} {ops : Array Oper} {o : Oper} {a : Act} {K : Act → World → Prop} {Q : Exit → Act → World → Prop} {E : Prop} (hgd : o.guard = none) (s x : Operand)
    (ho : o.op = .call { callee := .builtin .append, args := #[s, x], argTypes := #[22, 22] })
    (B Bx : Nat) (v : Value) (hs : a.eval s = v) (h : Row B [] v w) (ad : Option Addr) (n cap : Nat) (l : List (Int × Int)) (hx : a.eval x = .slice ad n cap) (hl : Lies Bx w ad l) (hn : l.length = n)
    (hbytes : n * 16 ≤ 140737488351232) (hB : B ≤ w.heap.size)
    (hK : ∀ a' cap' w', Row B l (.slice a' n cap') w' → w.grownBy w' v.ownBlock → ((Value.slice a' n cap').ownBlock = v.ownBlock ∨ (Value.slice a' n cap').ownBlock = some w.heap.size) → K (a.put o.dst (.slice a' n cap')) w') :
    if Region.wanted o (yielded ops a.tmps) = true then Oper.wp Tryd.prog o a w K Q else E := by
  have hw : Region.wanted o (yielded ops a.tmps) = true := by simp [Region.wanted, hgd]
  rw [if_pos hw]
  obtain ⟨i0, hi, hz0, hz1, hz2⟩ := info_parts Tryd.infoMono
  obtain ⟨v', w', hr, h3, h4, h5⟩ : ∃ v' w', (Builtin.append_ #[22, 22] o.type #[v, .slice ad n cap]).run Tryd.prog w = .ok v' w' ∧ Row B l v' w' ∧ w.grownBy w' v.ownBlock ∧ (v'.ownBlock = v.ownBlock ∨ v'.ownBlock = some w.heap.size) := by
    cases ad with
    | none =>
      have h0 : l = [] := by
        cases l with
        | nil => rfl
        | cons m r =>
          obtain ⟨_, _, e, _⟩ := hl 0 (by simp)
          cases e
      subst h0
      obtain rfl : n = 0 := by simpa using hn.symm
      exact ⟨v, w, run_append_none w B _ o.type _ i0 2 Tryd.underlying22 hi v _ _ h cap, h, World.grownBy.refl w _, .inl rfl⟩
    | some ad =>
      obtain ⟨v', w', hr, h3, h4, _, h6⟩ := run_append_own_at w B 22 o.type 57 i0 _ 2 16 Tryd.underlying22 hi hz0 hz1 hz2 rfl (by decide) v 0 [] h ad n cap (flat l) (by rw [flat_len, hn]) hl.news (flat_cells l) (by unfold maxLen; omega) (by omega) hB
      refine ⟨v', w', hr, ?_, h4, h6⟩
      unfold Row
      rw [hn]
      simpa using h3
  obtain ⟨a', cap', rfl, _, _⟩ := h3.lies
  rw [hn] at hr h3 h5
  unfold Oper.wp execOp
  simp only [ho, resolve, invoke, builtin, Sem.run_bind, Sem.run_pure, Result.andThen_ok, List.map_toArray, List.map_cons, List.map_nil, hs, hx, hr]
  exact hK _ _ _ h3 h4 h5

/-- A list of formulas' cells of the call's own. -/
def ORow (B : Nat) (css : List (List Value)) (v : Value) (w : World) : Prop := w.ownsRow B 27 4 v css.length css.flatten

theorem step_append_form {w : World} {ops : Array Oper} {o : Oper} {a : Act} {K : Act → World → Prop} {Q : Exit → Act → World → Prop} {E : Prop} (hgd : o.guard = none) (s x : Operand)
    (ho : o.op = .call { callee := .builtin .append, args := #[s, x], argTypes := #[25, 25] })
    (B : Nat) (v : Value) (hs : a.eval s = v) (css : List (List Value)) (h : ORow B css v w) (ad : Addr) (cap : Nat) (cs : List Value) (hx : a.eval x = .slice (some ad) 1 cap) (hcs : cs.length = 4)
    (hnews : ∀ j u, cs[j]? = some u → w.cell? (ad.add j) = some u) (h1 : ∀ u ∈ cs, u.oneCell' = true) (hlen : css.length ≤ 1048576) (hB : B ≤ w.heap.size)
    (hK : ∀ v' w', ORow B (css ++ [cs]) v' w' → w.grownBy w' v.ownBlock → (v'.ownBlock = v.ownBlock ∨ v'.ownBlock = some w.heap.size) → K (a.put o.dst v') w') :
    if Region.wanted o (yielded ops a.tmps) = true then Oper.wp Tryd.prog o a w K Q else E := by
  have hw : Region.wanted o (yielded ops a.tmps) = true := by simp [Region.wanted, hgd]
  rw [if_pos hw]
  obtain ⟨i0, hi, hz0, hz1, hz2⟩ := info_parts Tryd.infoForm
  obtain ⟨v', w', hr, h3, h4, _, h5⟩ := run_append_own_at w B 25 o.type 27 i0 _ 4 64 Tryd.underlying25 hi hz0 hz1 hz2 rfl (by decide) v css.length css.flatten h ad 1 cap cs (by rw [hcs]) hnews h1 (by unfold maxLen; omega) (by omega) hB
  unfold Oper.wp execOp
  simp only [ho, resolve, invoke, builtin, Sem.run_bind, Sem.run_pure, Result.andThen_ok, List.map_toArray, List.map_cons, List.map_nil, hs, hx, hr]
  refine hK _ _ ?_ h4 h5
  unfold ORow
  rw [List.length_append, List.flatten_append, List.flatten_singleton]
  exact h3
theorem row_fresh (B : Nat) (W : World) (N : Nat) (hN : W.heap.size = N) (hB : B ≤ N) : Row B [] (.slice (some ⟨N, 0, none⟩) 0 0) (W.alloc (.cells #[] 57)).drew := by
  subst hN
  have h : (W.alloc (.cells #[] 57)).ownsRow B 57 2 (.slice (some ⟨W.heap.size, 0, none⟩) 0 0) 0 [] := World.ownsRow_made W #[] 0 hB (by decide) rfl
  exact h
end Go.Proofs.YtelndcmfddbgiaaDoor
