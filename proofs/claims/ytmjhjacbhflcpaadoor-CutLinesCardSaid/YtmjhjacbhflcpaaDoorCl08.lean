/- The document's own multiples of a form. append of one own list of terms to another. The document's Up. The document's step: what it answers; the states of its loops. -/
import Derived.Test.YtmjhjacbhflcpaaDoorCl02
import Derived.Test.YtmjhjacbhflcpaaDoorCl03
import Derived.Test.YtmjhjacbhflcpaaDoorCl06
import Derived.Test.YtmjhjacbhflcpaaDoorCl07
import Derived.Deep.RegionHeld3
import Derived.Deep.AppendLies
import Derived.Deep.DrawnRows
import Derived.StillTailTactics
import Derived.Deep.RegionLaw
import Derived.BigQuiet
import Derived.RegionTactic
set_option linter.unusedVariables false
set_option linter.unusedSimpArgs false
namespace Go.Proofs.YtmjhjacbhflcpaaDoor
open Go.RowKit

attribute [local go_sem ↓] Go.wp_at_zero Go.wp_at_succ
set_option maxRecDepth 100000 in
set_option maxHeartbeats 3200000 in
theorem rtimes_any (c x : Int) (a : Option Addr) (n cap : Nat) (l : List (Int × Int)) (w : World) (hn : l.length = n) (hm : n ≤ 64) (hl : Lies w.heap.size w a l) (hxk : ∀ m ∈ l, -4398046511104 ≤ x * m.2 ∧ x * m.2 ≤ 4398046511104) :
    Calls Tryd.prog 34 #[.agg #[.int .i64 c, .slice a n cap], .int .i64 x] w (RowEnd w.heap.size (scale x l) w) := by
  obtain ⟨i0, hi, hz0, hz1, hz2⟩ := info_parts Tryd.infoMono
  have HN := Lib.hid hn
  have HL := Lib.hid hl
  have HX := Lib.hid hxk
  have HB0 : Hid (Below (w.heap.size + 1) (w.alloc (.cells #[.int .i64 c, .slice a n cap] 49)) (w.alloc (.cells #[.int .i64 c, .slice a n cap] 49))) := Below.refl _ _
  clear hn hl hxk
  go_enter Tryd.func34, Tryd.ntmps34
  go_wp2_with fail
  go_loopw [5, 6] (fun s i wr => ∃ k : Nat, k ≤ n ∧ i = .int .i64 k ∧ Hid (Row (w.heap.size + 1) (scale x (l.take k)) s wr) ∧ Hid (Below (w.heap.size + 1) (w.alloc (.cells #[.int .i64 c, .slice a n cap] 49)) wr)) (fun _ i _ => n - (intOf i).toNat)
  case atStart => exact ⟨0, Nat.zero_le _, rfl, World.ownsRow_nil _ _ _ _, HB0⟩
  case round =>
    obtain ⟨k, hk, rfl, hrow, hb⟩ := hrel
    have hbw : Below w.heap.size w wr := ((Below.refl _ w).alloc (Nat.le_refl _) _).trans (hb.out.mono (by omega))
    have g0 : wr.cell? ⟨w.heap.size, 0, none⟩ = some (.int .i64 c) := by rw [hb.out.cell (p := ⟨w.heap.size, 0, none⟩) (by simp)]; simp
    have g1 : wr.cell? ⟨w.heap.size, 1, none⟩ = some (.slice a n cap) := by rw [hb.out.cell (p := ⟨w.heap.size, 1, none⟩) (by simp)]; simp
    have gz : w.heap.size < wr.heap.size := by have := hb.out.size; simp at this; omega
    obtain ⟨wo, rfl⟩ : ∃ wo : World, wo = wr := ⟨_, rfl⟩
    by_cases hlt : k < n
    · obtain ⟨b, off, rfl, hblt, c1, c2⟩ := (HL.out.below hbw) k (by rw [HN.out]; exact hlt)
      have hts := take_snoc l k (by rw [HN.out]; exact hlt)
      have hm2 := HX.out (l.getD k (0, 0)) (by rw [List.getD_eq_getElem?_getD, List.getElem?_eq_getElem (by rw [HN.out]; exact hlt)]; simp)
      have hrl : (scale x (l.take k)).length ≤ 128 := by rw [scale_len, List.length_take]; omega
      have HT3 : Hid (scale x (l.take (k + 1)) = scale x (l.take k) ++ [((l.getD k (0, 0)).1, x * (l.getD k (0, 0)).2)]) := by
        show _ = _
        rw [hts, scale_snoc]
      have HBW := Lib.hid hbw
      generalize (l.getD k (0, 0)).1 = v at c1 HT3
      generalize (l.getD k (0, 0)).2 = u at c2 HT3 hm2
      generalize scale x (l.take k) = r at hrow hrl HT3
      clear hts hbw
      have hzr : w.heap.size + 1 ≤ wo.heap.size := by omega
      have hown := hrow.out
      unfold Row at hown
      have al : u5.ownBlock ≠ some w.heap.size := fun e => by have := (World.ownsRow.lt hown _ e).1; omega
      have ab : u5.ownBlock ≠ some b := fun e => by have := (World.ownsRow.lt hown _ e).1; omega
      have hk0 : (0 : Int) ≤ (k : Int) := Int.natCast_nonneg _
      have hk1 : (k : Int) < (n : Int) := by omega
      have hw1 : IntKind.i64.wrap (x * u) = x * u := IntWalk.i64_in _ (by omega)
      go_wp2_with fail
      go_region_held3 (fun w' => w'.cell? ⟨w.heap.size, 1, none⟩ = some (.slice (some ⟨b, off, none⟩) n cap) ∧ w'.cell? ⟨b, off + k * 2, none⟩ = some (.int .i64 v) ∧ w'.cell? ⟨b, off + k * 2 + 1, none⟩ = some (.int .i64 u))
        (first
          | go_keep
          | (go_split_ands
             refine ⟨?_, ?_, ?_⟩
             · (rw [hgrow.cell_far _ (by simp; omega) (Ne.symm al)]; assumption)
             · (rw [hgrow.cell_far _ (by simp; omega) (Ne.symm ab)]; assumption)
             · (rw [hgrow.cell_far _ (by simp; omega) (Ne.symm ab)]; assumption)))
        ((refine step_append_lies _ (by rfl) _ _ _ (by rfl) (w.heap.size + 1) 46 i0 _ 2 16 Tryd.underlying47 hi hz0 hz1 hz2 rfl (by omega) u5 r.length (flat r) (by rfl) ((hown.alloc _).drew)
            ⟨wo.heap.size, 0, none⟩ 1 1 [.int .i64 v, .int .i64 (x * u)] (by rfl) (by rfl) (World.news_of_block (cs := #[.int .i64 v, .int .i64 (x * u)]) (t := 46) (fr := (0, 0)) (heap_alloc_new wo _)) (by simp [Value.oneCell'])
            (by omega) (by unfold maxLen; omega) (by omega) (by simp; omega) (wo.heap.size + 1) (by simp) ?_; intro gg cap2 w1 hown1 hgrow hat hlt2))
      have HO : Hid (Row (w.heap.size + 1) (scale x (l.take (k + 1))) (.slice (some ⟨gg, 0, none⟩) (r.length + 1) cap2) w1) := by
        show Row _ _ _ _
        rw [HT3.out]
        unfold Row
        rw [List.length_append, flat_append]
        exact hown1
      have HB : Hid (Below (w.heap.size + 1) (w.alloc (.cells #[.int .i64 c, .slice (some ⟨b, off, none⟩) n cap] 49)) w1) := ((hb.out.alloc hzr _).drew).grown hgrow (by simp; omega) (fun j hj => (World.ownsRow.lt hown j hj).1)
      clear hown1 hgrow hrow hown
      go_wp2
      go_roundw
      case rel => exact ⟨k + 1, by omega, by go_num, HO, HB⟩
      case measure => simp [intOf]; omega
    · have HF : Hid (Row (w.heap.size + 1) (scale x l) u5 wo) := by
        have := hrow.out
        rwa [List.take_of_length_le (by rw [HN.out]; omega)] at this
      have HBW := Lib.hid hbw
      clear hrow hbw
      go_wp2_with fail
      go_ret
      exact ⟨_, rfl, Joins.ownsRow_le HF.out (by omega), HBW.out⟩
end Go.Proofs.YtmjhjacbhflcpaaDoor

namespace Go.Proofs.YtmjhjacbhflcpaaDoor
open Go.RowKit

theorem Row.lies2 {B : Nat} {l : List (Int × Int)} {a : Option Addr} {n cap : Nat} {w : World} (h : Row B l (.slice a n cap) w) : Lies w.heap.size w a l := by
  obtain ⟨a', cap', e, hl, _⟩ := h.lies
  injection e with e1 e2 e3
  subst e1
  exact hl

theorem append_two (w : World) (ty : TypeId) {B B2 : Nat} {v v2 : Value} {r r2 : List (Int × Int)} (h : Row B r v w) (h2 : Row B2 r2 v2 w) (hB : B ≤ w.heap.size) (hlen : r.length + r2.length ≤ 8192) :
    ∃ v' w', (Builtin.append_ #[47, 47] ty #[v, v2]).run Tryd.prog w = .ok v' w' ∧ Row B (r ++ r2) v' w' ∧ w.grownBy w' v.ownBlock := by
  obtain ⟨i0, hi, hz0, hz1, hz2⟩ := info_parts Tryd.infoMono
  obtain ⟨a2, cap2, rfl, hl2, hnil⟩ := h2.lies
  cases a2 with
  | none =>
    obtain ⟨h0, rfl⟩ := hnil rfl
    have hr : r2 = [] := List.eq_nil_of_length_eq_zero h0
    subst hr
    exact ⟨v, w, run_append_owned_none w B _ ty _ i0 2 Tryd.underlying47 hi v _ _ h, by simpa using h, World.grownBy.refl w _⟩
  | some ad =>
    obtain ⟨v', w', hr, h3, h4, _⟩ := run_append_own w B 47 ty 46 i0 _ 2 16 Tryd.underlying47 hi hz0 hz1 hz2 rfl (by decide) v r.length (flat r) h ad r2.length cap2 (flat r2) (flat_len r2) hl2.news (flat_cells r2) (by unfold maxLen; omega) (by omega) hB
    refine ⟨v', w', hr, ?_, h4⟩
    unfold Row
    rw [List.length_append, flat_append]
    exact h3

theorem step_append_two {w : World} {ops : Array Oper} {o : Oper} {a : Act} {K : Act → World → Prop} {Q : Exit → Act → World → Prop} {E : Prop} (hgd : o.guard = none) (s x : Operand)
    (ho : o.op = .call { callee := .builtin .append, args := #[s, x], argTypes := #[47, 47] })
    (B B2 : Nat) (v v2 : Value) (r r2 : List (Int × Int)) (hs : a.eval s = v) (hx : a.eval x = v2) (h : Row B r v w) (h2 : Row B2 r2 v2 w) (hB : B ≤ w.heap.size) (hlen : r.length + r2.length ≤ 8192)
    (hK : ∀ a' cap w', Row B (r ++ r2) (.slice a' (r.length + r2.length) cap) w' → w.grownBy w' v.ownBlock → K (a.put o.dst (.slice a' (r.length + r2.length) cap)) w') :
    if Region.wanted o (yielded ops a.tmps) = true then Oper.wp Tryd.prog o a w K Q else E := by
  have hw : Region.wanted o (yielded ops a.tmps) = true := by simp [Region.wanted, hgd]
  rw [if_pos hw]
  obtain ⟨v', w', hr, h3, h4⟩ := append_two w o.type h h2 hB hlen
  obtain ⟨a', cap, rfl, _, _⟩ := h3.lies
  rw [List.length_append] at hr h3
  unfold Oper.wp execOp
  simp only [ho, resolve, invoke, builtin, Sem.run_bind, Sem.run_pure, Result.andThen_ok, List.map_toArray, List.map_cons, List.map_nil, hs, hx, hr]
  exact hK _ _ _ h3 h4
end Go.Proofs.YtmjhjacbhflcpaaDoor

namespace Go.Proofs.YtmjhjacbhflcpaaDoor
open Go.RowKit

theorem upI_ceil {c g : Int} (hg : 1 ≤ g) : c ≤ upI c g * g ∧ (upI c g - 1) * g < c := by
  have h1 : c.tmod g + g * c.tdiv g = c := Int.tmod_add_mul_tdiv c g
  have h2 : c.tmod g < g := Int.tmod_lt_of_pos c (by omega)
  have h3 : -g < c.tmod g := by
    have := Int.natAbs_tmod c g
    have h4 : c.natAbs % g.natAbs < g.natAbs := Nat.mod_lt _ (by omega)
    omega
  rw [Int.mul_comm] at h1
  unfold upI
  generalize c.tdiv g = q at h1 ⊢
  generalize c.tmod g = r at h1 h2 h3 ⊢
  have e1 : (q + 1) * g = q * g + g := by rw [Int.add_mul, Int.one_mul]
  have e2 : (q - 1) * g = q * g - g := by rw [Int.sub_mul, Int.one_mul]
  generalize q * g = X at h1 e1 e2
  split
  · rw [e1, show q + 1 - 1 = q by omega]
    constructor
    · omega
    · rename_i h5
      have : q * g = X := by have := e1; rw [Int.add_mul, Int.one_mul] at this; omega
      omega
  · rw [e2]
    have : q * g = X := by have := e1; rw [Int.add_mul, Int.one_mul] at this; omega
    omega
theorem upI_near (c g : Int) : c.tdiv g = upI c g ∨ c.tdiv g = upI c g - 1 := by
  unfold upI
  split <;> omega

set_option maxHeartbeats 1000000 in
theorem rup_any (c g : Int) (w : World) (hg : 1 ≤ g ∧ g ≤ 1073741824) (hc : -281474976710656 ≤ c ∧ c ≤ 281474976710656) :
    Calls Tryd.prog 35 #[.int .i64 c, .int .i64 g] w fun e w' => e = .returned (.int .i64 (upI c g)) ∧ w = w' := by
  have hg0 : g ≠ 0 := by omega
  obtain ⟨k1, k2⟩ := upI_ceil (c := c) hg.1
  have hn := upI_near c g
  have hub := upI_in (c := c) (g := g) (B := 281474976710656) (by omega)
  have hqb := tdiv_in (c := c) (g := g) (B := 281474976710656) (by omega)
  have hwd : IntKind.i64.wrap (c.tdiv g) = c.tdiv g := IntWalk.i64_in _ (by omega)
  generalize upI c g = u at k1 k2 hn hub ⊢
  have e2 : (u - 1) * g = u * g - g := by rw [Int.sub_mul, Int.one_mul]
  have hw1 : IntKind.i64.wrap (u * g) = u * g := IntWalk.i64_in _ (by rw [e2] at k2; omega)
  have hw2 : IntKind.i64.wrap ((u - 1) * g) = (u - 1) * g := IntWalk.i64_in _ (by rw [e2] at k2 ⊢; omega)
  have k1' : ¬ u * g < c := by omega
  have k2' : ¬ c ≤ (u - 1) * g := by omega
  have HN := Lib.hid hn
  clear hn e2 k1
  go_enter Tryd.func35, Tryd.ntmps35
  go_wp2_with fail
  go_loopw [5] (fun s wr => ∃ q : Int, s = .int .i64 q ∧ (q = u ∨ q = u - 1) ∧ w = wr) (fun s _ => (u - intOf s).toNat)
  case atStart => exact ⟨c.tdiv g, rfl, HN.out, rfl⟩
  case round =>
    obtain ⟨q, rfl, hq, rfl⟩ := hrel
    rcases hq with rfl | rfl
    · go_wp2_with fail
      go_loopw [5] (fun s wr => s = .int .i64 q ∧ w = wr) (fun _ _ => 0)
      case atStart => exact ⟨rfl, rfl⟩
      case round =>
        obtain ⟨rfl, rfl⟩ := hrel
        go_wp2_with fail
        go_ret
        exact ⟨rfl, rfl⟩
    · have k3 : (u - 1) * g < c := by omega
      go_wp2_with fail
      go_roundw
      case rel => exact ⟨u, by go_num, .inl rfl, trivial⟩
      case measure => simp [intOf]; omega
end Go.Proofs.YtmjhjacbhflcpaaDoor

namespace Go.Proofs.YtmjhjacbhflcpaaDoor
open Go.RowKit Go.Maps

/-- A form, and an error's number. -/
def REnd (B : Nat) (x C : Int) (D : List (Int × Int)) (w : World) (e : Ending) (w' : World) : Prop := ∃ v, e = .returned (.tuple #[.agg #[.int .i64 C, v], .int .i64 x]) ∧ Row B D v w' ∧ Below B w w'
theorem REnd.none {B : Nat} {x : Int} {w : World} {e : Ending} {w' : World} (he : e = .returned (.tuple #[.agg #[.int .i64 0, .slice none 0 0], .int .i64 x])) (hb : Below B w w') : REnd B x 0 [] w e w' := ⟨_, he, World.ownsRow_nil _ _ _ _, hb⟩
theorem scale_timesL (x : Int) (l : List (Int × Int)) : scale x l = timesL x l := by
  unfold scale timesL
  exact List.map_congr_left fun m _ => by rw [Int.mul_comm]
/-- Behind the first parts. -/
structure StpSt (w W : World) (pa : Option Addr) (pn pcap : Nat) (div : Int) (T : List (Int × Int)) (v : Value) : Prop where
  t : TellSt w W pa pn pcap div
  row : Row (w.heap.size + 2) T v W
theorem StpSt.below {w W W' : World} {pa : Option Addr} {pn pcap : Nat} {div : Int} {T : List (Int × Int)} {v : Value} (h : StpSt w W pa pn pcap div T v) (hb : Below W.heap.size W W') : StpSt w W' pa pn pcap div T v :=
  ⟨h.t.below hb h.t.mz, World.ownsRow.kept (row := none) h.row ⟨hb.os, hb.tape, hb.output, hb.size, fun q hq _ => hb.block q hq⟩ (by cases v.ownBlock <;> simp)⟩

/-- A part is of a sound line that is there. -/
def partOk (ls : List (Int × List (Int × Int))) (ps : List (Int × Int)) (k : Nat) : Prop :=
  (0 ≤ (ps.getD k (0, 0)).1 ∧ (ps.getD k (0, 0)).1.toNat < ls.length) ∧ (1 ≤ (ps.getD k (0, 0)).2 ∧ (ps.getD k (0, 0)).2 ≤ 4096) ∧ snd (lineAt ls ps k).1 (lineAt ls ps k).2 = true
theorem partK_ok {ls : List (Int × List (Int × Int))} {ps : List (Int × Int)} {n : Nat} {k : Nat} (hn : ls.length = n) (hok : lsOk ls) (h1 : partK n (ps.getD k (0, 0)) = 0) : partOk ls ps k := by
  unfold partK at h1
  by_cases a : (ps.getD k (0, 0)).1 < 0 ∨ (n : Int) ≤ (ps.getD k (0, 0)).1
  · rw [if_pos a] at h1; cases h1
  · rw [if_neg a] at h1
    by_cases b : (ps.getD k (0, 0)).2 < 1 ∨ 4096 < (ps.getD k (0, 0)).2
    · rw [if_pos b] at h1; cases h1
    · exact ⟨⟨by omega, by omega⟩, ⟨by omega, by omega⟩, hok _ (by omega)⟩
theorem tTo_inP {ls : List (Int × List (Int × Int))} {ps : List (Int × Int)} : ∀ k, (∀ j, j < k → partOk ls ps j) → (tTo ls ps k).length ≤ k * 64 ∧ ∀ m ∈ tTo ls ps k, -4398046511104 ≤ m.2 ∧ m.2 ≤ 4398046511104
  | 0, _ => ⟨Nat.le_refl _, fun m hm => by cases hm⟩
  | k + 1, h => by
    obtain ⟨h1, h2⟩ := tTo_inP k (fun j hj => h j (by omega))
    obtain ⟨_, hx, hs⟩ := h k (by omega)
    refine ⟨?_, fun m hm => ?_⟩
    · show (tTo ls ps k ++ _).length ≤ _
      rw [List.length_append, timesL_len]
      have := (snd_iff.1 hs).2.1
      omega
    · rcases List.mem_append.1 hm with hm | hm
      · exact h2 m hm
      · exact timesL_in hs hx m hm
theorem cTo_inP {ls : List (Int × List (Int × Int))} {ps : List (Int × Int)} : ∀ k, (∀ j, j < k → partOk ls ps j) → -(k * 4398046511104 : Int) ≤ cTo ls ps k ∧ cTo ls ps k ≤ k * 4398046511104
  | 0, _ => by show _ ≤ (0 : Int) ∧ (0 : Int) ≤ _; omega
  | k + 1, h => by
    have h1 := cTo_inP k (fun j hj => h j (by omega))
    obtain ⟨_, hx, hs⟩ := h k (by omega)
    have hc := (snd_iff.1 hs).1
    unfold wi at hc
    have hc' : -1073741824 ≤ (lineAt ls ps k).1 ∧ (lineAt ls ps k).1 ≤ 1073741824 := by simpa using hc
    have h3 : -1073741824 * (ps.getD k (0, 0)).2 ≤ (lineAt ls ps k).1 * (ps.getD k (0, 0)).2 := Int.mul_le_mul_of_nonneg_right hc'.1 (by omega)
    have h4 : (lineAt ls ps k).1 * (ps.getD k (0, 0)).2 ≤ 1073741824 * (ps.getD k (0, 0)).2 := Int.mul_le_mul_of_nonneg_right hc'.2 (by omega)
    show _ ≤ cTo ls ps k + _ ∧ cTo ls ps k + _ ≤ _
    push_cast
    omega

/-! The outer loop. -/
def farS (c : Int) (R : List (Int × Int)) (L : Int) : Bool := !(wi c 4398046511104 && allIn 4398046511104 (upTo R L))
def restS (g : Int) (R : List (Int × Int)) (L : Int) : Bool := !(allDiv g (upTo R L))
def overS (u g : Int) (R : List (Int × Int)) (L : Int) : Bool := !(wi u 1073741824 && allIn 1073741824 (divT g (upTo R L)))
theorem allIn_append (M : Int) (r : List (Int × Int)) (m : Int × Int) : allIn M (r ++ [m]) = (allIn M r && wi m.2 M) := by simp [allIn, List.all_append]
theorem allDiv_append (g : Int) (r : List (Int × Int)) (m : Int × Int) : allDiv g (r ++ [m]) = (allDiv g r && (m.2.tmod g == 0)) := by simp [allDiv, List.all_append]
theorem divT_append (g : Int) (r : List (Int × Int)) (m : Int × Int) : divT g (r ++ [m]) = divT g r ++ [(m.1, m.2.tdiv g)] := by simp [divT]
theorem flags_start {c u g : Int} {T R : List (Int × Int)} (hR : IsSum T R) (hV : ∀ m ∈ T, 0 ≤ m.1 ∧ m.1 < 1048576) : farS c R (-1) = (!(wi c 4398046511104)) ∧ restS g R (-1) = false ∧ overS u g R (-1) = (!(wi u 1073741824)) := by
  unfold farS restS overS
  rw [upTo_start hR hV]
  simp [allIn, allDiv, divT]
theorem flags_same {c u g : Int} {R : List (Int × Int)} {L v : Int} (h : upTo R v = upTo R L) : farS c R v = farS c R L ∧ restS g R v = restS g R L ∧ overS u g R v = overS u g R L := by
  unfold farS restS overS; rw [h]; exact ⟨rfl, rfl, rfl⟩
theorem flags_step {c u g : Int} {R : List (Int × Int)} {L v K : Int} (h : upTo R v = upTo R L ++ [(v, K)]) :
    farS c R v = (farS c R L || !(wi K 4398046511104)) ∧ restS g R v = (restS g R L || !(K.tmod g == 0)) ∧ overS u g R v = (overS u g R L || !(wi (K.tdiv g) 1073741824)) := by
  unfold farS restS overS
  rw [h, allIn_append, allDiv_append, divT_append, allIn_append]
  refine ⟨?_, ?_, ?_⟩
  · cases wi c 4398046511104 <;> cases allIn 4398046511104 (upTo R L) <;> cases wi (v, K).2 4398046511104 <;> rfl
  · cases allDiv g (upTo R L) <;> cases ((v, K).2.tmod g == 0) <;> rfl
  · cases wi u 1073741824 <;> cases allIn 1073741824 (divT g (upTo R L)) <;> cases wi (v, K.tdiv g).2 1073741824 <;> rfl
theorem flags_end {n c div : Int} {ps R : List (Int × Int)} {L : Int} (hk : stepK n ps div = 0) (h : upTo R L = R) :
    (farS c R L = true → tellK n c div ps R = 3) ∧ (farS c R L = false → restS div R L = true → tellK n c div ps R = 7) ∧
    (farS c R L = false → restS div R L = false → overS (upI c div) div R L = true → tellK n c div ps R = 3) ∧
    (farS c R L = false → restS div R L = false → overS (upI c div) div R L = false → tellK n c div ps R = if 64 < R.length then 2 else 0) := by
  unfold farS restS overS
  rw [h]
  have hfar : ∀ b1 b2 : Bool, (!(b1 && b2)) = false → b1 = true ∧ b2 = true := by decide
  have hfar2 : ∀ b1 b2 : Bool, (!(b1 && b2)) = true → b1 = false ∨ b2 = false := by decide
  have hno : ∀ b : Bool, (!b) = false → b = true := by decide
  have hyes : ∀ b : Bool, (!b) = true → b = false := by decide
  refine ⟨fun a => tellK_far hk (hfar2 _ _ a), fun a b => ?_, fun a b d => ?_, fun a b d => ?_⟩
  · obtain ⟨h1, h2⟩ := hfar _ _ a
    exact tellK_div hk h1 h2 (hyes _ b)
  · obtain ⟨h1, h2⟩ := hfar _ _ a
    rw [tellK_ok hk h1 h2 (hno _ b)]
    exact divK_far (hfar2 _ _ d)
  · obtain ⟨h1, h2⟩ := hfar _ _ a
    obtain ⟨h3, h4⟩ := hfar _ _ d
    rw [tellK_ok hk h1 h2 (hno _ b), divK_in h3 h4, divT_len]

/-- Within the outer loop: the form that is made, in the block No. -/
structure OutSt (w W : World) (No : Nat) (pa : Option Addr) (pn pcap : Nat) (div u : Int) (T : List (Int × Int)) (ta : Option Addr) (D : List (Int × Int)) : Prop where
  t : TellSt w W pa pn pcap div
  lies : Lies No W ta T
  o0 : W.cell? ⟨No, 0, none⟩ = some (.int .i64 u)
  o1 : ∃ v, W.cell? ⟨No, 1, none⟩ = some v ∧ Row (No + 1) D v W
  ofr : ∀ o, W.frozen? ⟨No, o, none⟩ = false
  lt : No < W.heap.size
  ge : w.heap.size + 2 ≤ No
theorem OutSt.start {w W : World} {pa : Option Addr} {pn pcap : Nat} {div u : Int} {T : List (Int × Int)} {v : Value} (h : StpSt w W pa pn pcap div T v) : ∃ ta tcap, v = .slice ta T.length tcap ∧ OutSt w (W.alloc (.cells #[.int .i64 u, .slice none 0 0] 49)) W.heap.size pa pn pcap div u T ta [] := by
  obtain ⟨ta, tcap, rfl, hl, _⟩ := h.row.lies
  have hb := (Below.refl W.heap.size W).alloc (Nat.le_refl _) (.cells #[.int .i64 u, .slice none 0 0] 49)
  have hn := heap_alloc_new W (.cells #[.int .i64 u, .slice none 0 0] 49)
  exact ⟨ta, tcap, rfl, h.t.below hb h.t.mz, hl.below hb, (cell_of_row _ _ _ _ _ _ hn).trans rfl, ⟨_, (cell_of_row _ _ _ _ _ _ hn).trans rfl, World.ownsRow_nil _ _ _ _⟩, fun o => frozen_of_row _ _ _ _ _ hn, lt_of_some hn, h.t.mz⟩
theorem OutSt.push {w W W1 : World} {No : Nat} {pa : Option Addr} {pn pcap : Nat} {div u : Int} {T D D' : List (Int × Int)} {ta : Option Addr} {v' : Value} (h : OutSt w W No pa pn pcap div u T ta D) (hb : Below (No + 1) W W1) (hr : Row (No + 1) D' v' W1) : OutSt w (W1.setCell ⟨No, 1, none⟩ v') No pa pn pcap div u T ta D' := by
  have hge := h.ge
  have hbs : Below No W (W1.setCell ⟨No, 1, none⟩ v') := (hb.mono (Nat.le_succ _)).setCell (p := ⟨No, 1, none⟩) (Nat.le_refl _) _
  obtain ⟨v, o1, _⟩ := h.o1
  have k : W1.grownBy (W1.setCell ⟨No, 1, none⟩ v') (some No) := ⟨rfl, rfl, rfl, Nat.le_of_eq (World.size_setCell _ _ _).symm, fun q _ hq => Below.heap_setCell _ _ _ _ (fun e => hq (by rw [e]))⟩
  refine ⟨h.t.below hbs hge, h.lies.below hbs, ?_, ⟨v', World.cell?_setCell_same _ _ _ ((hb.cell (p := ⟨No, 1, none⟩) (Nat.lt_succ_self _)).trans o1), World.ownsRow.kept hr k (.inr (fun e => by have := (World.ownsRow.lt hr _ e).1; omega))⟩, fun o => (World.frozen?_setCell _ _ _ _).trans ((hb.frozen (p := ⟨No, o, none⟩) (Nat.lt_succ_self _)).trans (h.ofr o)), by rw [World.size_setCell]; exact Nat.lt_of_lt_of_le h.lt hb.size, hge⟩
  rw [World.cell?_setCell_other _ _ _ _ (by simp)]
  exact (hb.cell (p := ⟨No, 0, none⟩) (Nat.lt_succ_self _)).trans h.o0
end Go.Proofs.YtmjhjacbhflcpaaDoor
