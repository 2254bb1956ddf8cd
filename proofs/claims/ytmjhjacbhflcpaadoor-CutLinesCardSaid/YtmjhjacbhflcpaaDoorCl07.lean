/- Lines in a row of the call's own; slices.Clone; what all lines are. lin.Add. The document's own way to the sum of terms: variable by variable. -/
import Derived.Test.YtmjhjacbhflcpaaDoorCl06
import Derived.Laws.MakeOwn
import Derived.OwnWalk
set_option linter.unusedVariables false
set_option linter.unusedSimpArgs false
namespace Go.Proofs.YtmjhjacbhflcpaaDoor
open Go.RowKit Go.Maps

def LiesS (S : Nat → Prop) (w : World) (a : Option Addr) (l : List (Int × Int)) : Prop :=
  ∀ i, i < l.length → ∃ b off, a = some ⟨b, off, none⟩ ∧ S b ∧ w.cell? ⟨b, off + i * 2, none⟩ = some (.int .i64 (l.getD i (0, 0)).1) ∧ w.cell? ⟨b, off + i * 2 + 1, none⟩ = some (.int .i64 (l.getD i (0, 0)).2)
theorem LiesS.lies {S : Nat → Prop} {w : World} {B : Nat} {a : Option Addr} {l : List (Int × Int)} (hS : ∀ b, S b → b < B) (h : LiesS S w a l) : Lies B w a l := fun i hi => by
  obtain ⟨b, off, e, hb, r⟩ := h i hi
  exact ⟨b, off, e, hS b hb, r⟩
theorem LiesS.keep {S S' : Nat → Prop} {w w' : World} {a : Option Addr} {l : List (Int × Int)} (hS : ∀ b, S b → S' b) (hk : ∀ b o, S b → w'.cell? ⟨b, o, none⟩ = w.cell? ⟨b, o, none⟩) (h : LiesS S w a l) : LiesS S' w' a l := fun i hi => by
  obtain ⟨b, off, e, hb, r1, r2⟩ := h i hi
  exact ⟨b, off, e, hS b hb, (hk _ _ hb).trans r1, (hk _ _ hb).trans r2⟩
theorem Row.liesS {B : Nat} {l : List (Int × Int)} {v : Value} {w : World} (h : Row B l v w) : ∃ a cap, v = .slice a l.length cap ∧ LiesS (fun b => B ≤ b ∧ b < w.heap.size) w a l := by
  obtain ⟨a, cap, rfl, hl, _⟩ := h.lies
  refine ⟨a, cap, rfl, fun i hi => ?_⟩
  obtain ⟨b, off, rfl, hb, g0, g1⟩ := hl i hi
  exact ⟨b, off, rfl, ⟨(World.ownsRow.lt h b rfl).1, hb⟩, g0, g1⟩

set_option maxHeartbeats 800000 in
theorem clone_any (a : Option Addr) (n cap : Nat) (l : List (Int × Int)) (w : World) (hn : l.length = n) (hm : n ≤ 8192) (hl : Lies w.heap.size w a l) :
    Calls Tryd.prog 16 #[.slice a n cap] w (RowEnd w.heap.size l w) := by
  have he := fun W : World => Lib.run_eql_slice_nil (P := Tryd.prog) W 47 46 a n cap 0 0 Tryd.underlying47
  cases a with
  | none =>
    have hn0 : n = 0 := by
      cases n with
      | zero => rfl
      | succ n => obtain ⟨_, _, e, _⟩ := hl 0 (by omega); cases e
    subst hn0
    have HN := Lib.hid hn
    clear hn hl
    go_enter Tryd.func16, Tryd.ntmps16
    go_wp2_with fail
    go_ret
    exact ⟨_, rfl, by rw [List.eq_nil_of_length_eq_zero HN.out]; exact World.ownsRow_nil _ _ _ _, Below.refl _ _⟩
  | some a =>
    obtain ⟨i0, hi, hz0, hz1, hz2⟩ := info_parts Tryd.infoMono
    have HN := Lib.hid hn
    have HL := Lib.hid hl
    clear hn hl
    go_enter Tryd.func16, Tryd.ntmps16
    have hown : (w.alloc (.cells #[] 46)).ownsRow w.heap.size 46 2 (.slice (some ⟨w.heap.size, 0, none⟩) 0 0) 0 [] := World.ownsRow_made w #[] 0 (Nat.le_refl _) (by decide) rfl
    have HB := Lib.hid ((Below.refl w.heap.size w).alloc (Nat.le_refl _) (.cells #[] 46))
    go_wp2_with (at_builtin; refine wpList_append_own _ rfl _ _ 47 rfl w.heap.size 46 i0 _ 2 16 Tryd.underlying47 hi hz0 hz1 hz2 rfl (by decide) _ _ _ rfl hown a n cap (flat l) rfl ?c1 ?c2 ?c3 ?c4 ?c5 ?c6 ?_)
    case c1 => rw [flat_len, HN.out]
    case c2 => exact (HL.out.below HB.out).news
    case c3 => exact flat_cells l
    case c4 => unfold maxLen; omega
    case c5 => omega
    case c6 => simp
    intro v' w1 hown' hgrow _
    go_wp2_with fail
    go_ret
    refine ⟨_, rfl, ?_, HB.out.grown hgrow (by simp) (fun k hk => (hown.lt k hk).1)⟩
    unfold Row
    rw [HN.out]
    simpa using hown'

theorem lt_of_some {W : World} {b : Nat} {o : Obj} (h : W.heap[b]? = some o) : b < W.heap.size := (Array.getElem?_eq_some_iff.1 h).1
/-- A line, and where its terms lie. -/
structure LT where
  c : Int
  a : Option Addr
  cap : Nat
  t : List (Int × Int)
def lcells (xs : List LT) : List Value := xs.flatMap fun x => [.int .i64 x.c, .slice x.a x.t.length x.cap]
def lforms (xs : List LT) : List (Int × List (Int × Int)) := xs.map fun x => (x.c, x.t)
theorem lforms_len (xs : List LT) : (lforms xs).length = xs.length := by simp [lforms]
theorem lforms_append (xs ys : List LT) : lforms (xs ++ ys) = lforms xs ++ lforms ys := by simp [lforms]
theorem lcells_append (xs ys : List LT) : lcells (xs ++ ys) = lcells xs ++ lcells ys := by simp [lcells]
theorem lcells_len (xs : List LT) : (lcells xs).length = xs.length * 2 := by
  induction xs with
  | nil => rfl
  | cons x r ih => simp [lcells] at ih ⊢; omega
theorem lcells_get : ∀ (xs : List LT) (i : Nat) (x : LT), xs[i]? = some x → (lcells xs)[i * 2]? = some (.int .i64 x.c) ∧ (lcells xs)[i * 2 + 1]? = some (.slice x.a x.t.length x.cap)
  | y :: r, 0, x, h => by obtain rfl : y = x := by simpa using h
                          exact ⟨rfl, rfl⟩
  | y :: r, i + 1, x, h => by
    have := lcells_get r i x (by simpa using h)
    have e : lcells (y :: r) = .int .i64 y.c :: .slice y.a y.t.length y.cap :: lcells r := rfl
    rw [e, show (i + 1) * 2 = i * 2 + 1 + 1 by omega]
    simpa using this
structure LRow (B : Nat) (xs : List LT) (v : Value) (w : World) : Prop where
  row : w.ownsRow B 49 2 v xs.length (lcells xs)
  lies : ∀ x ∈ xs, LiesS (fun b => B ≤ b ∧ b < w.heap.size ∧ v.ownBlock ≠ some b) w x.a x.t
theorem LRow.nil (B : Nat) (w : World) : LRow B [] (.slice none 0 0) w := ⟨World.ownsRow_nil _ _ _ _, fun x hx => by cases hx⟩
theorem LRow.llies {B : Nat} {xs : List LT} {v : Value} {w : World} (h : LRow B xs v w) : ∃ a cap, v = .slice a xs.length cap ∧ LLies w.heap.size w a (lforms xs) := by
  have hr := h.row
  have hc := fun g => World.ownsRow.cells hr (g := g)
  have hlt := World.ownsRow.lt hr
  obtain ⟨_, h1 | ⟨g, cap, cur, hv, h2⟩⟩ := hr
  · refine ⟨none, 0, by rw [h1.1, h1.2], fun i hi => ?_⟩
    rw [lforms_len] at hi; omega
  · have hl := h.lies
    subst hv
    refine ⟨some ⟨g, 0, none⟩, cap, rfl, fun i hi => ?_⟩
    rw [lforms_len] at hi
    have hx : xs[i]? = some xs[i] := List.getElem?_eq_getElem hi
    obtain ⟨g1, g2⟩ := lcells_get xs i _ hx
    have e : (lforms xs).getD i (0, []) = (xs[i].c, xs[i].t) := by simp [lforms, List.getD_eq_getElem?_getD, hi]
    rw [e]
    refine ⟨g, 0, xs[i].a, xs[i].cap, rfl, (hlt g rfl).2, ?_, ?_, (hl _ (List.getElem_mem hi)).lies (fun b hb => hb.2.1)⟩
    · have := hc g rfl (i * 2) _ g1
      rwa [show (⟨g, 0, none⟩ : Addr).add (i * 2) = ⟨g, 0 + i * 2, none⟩ by unfold Addr.add; split <;> simp_all] at this
    · have := hc g rfl (i * 2 + 1) _ g2
      rwa [show (⟨g, 0, none⟩ : Addr).add (i * 2 + 1) = ⟨g, 0 + i * 2 + 1, none⟩ by unfold Addr.add; simp] at this
/-- What is made beside it leaves it as it is. -/
theorem LRow.below {B : Nat} {xs : List LT} {v : Value} {w w' : World} (h : LRow B xs v w) (hb : Below w.heap.size w w') : LRow B xs v w' :=
  ⟨World.ownsRow.kept (row := none) h.row ⟨hb.os, hb.tape, hb.output, hb.size, fun q hq _ => hb.block q hq⟩ (by cases v.ownBlock <;> simp), fun x hx => (h.lies x hx).keep (fun b ⟨h1, h2, h3⟩ => ⟨h1, Nat.lt_of_lt_of_le h2 hb.size, h3⟩) (fun b o ⟨_, h2, _⟩ => hb.cell (p := ⟨b, o, none⟩) h2)⟩
/-- One line more. -/
theorem LRow.step {B : Nat} {xs : List LT} {x : LT} {v v6 : Value} {w w5 w6 : World} {g H : Nat} (h : LRow B xs v w) (hB : B ≤ w.heap.size) (hb5 : Below w.heap.size w w5) (hx : LiesS (fun b => w.heap.size ≤ b ∧ b < w5.heap.size) w5 x.a x.t) (hg : w5.grownBy w6 v.ownBlock) (hH : w5.heap.size ≤ H)
    (hv : v6.ownBlock = some g) (hat : v.ownBlock = some g ∨ g = H) (hr : w6.ownsRow B 49 2 v6 (xs.length + 1) (lcells xs ++ [.int .i64 x.c, .slice x.a x.t.length x.cap])) : LRow B (xs ++ [x]) v6 w6 := by
  have hvb : ∀ b, v.ownBlock = some b → b < w.heap.size := fun b e => (World.ownsRow.lt h.row b e).2
  have hk : ∀ b o, b < w5.heap.size → v.ownBlock ≠ some b → w6.cell? ⟨b, o, none⟩ = w5.cell? ⟨b, o, none⟩ := fun b o hb hne => World.cell?_of_block (hg.block b hb (fun e => hne e.symm))
  have hne6 : ∀ b, b < w5.heap.size → v.ownBlock ≠ some b → v6.ownBlock ≠ some b := fun b hb hne e => by
    rw [hv] at e
    rcases hat with hat | hat
    · exact hne (hat.trans e)
    · injection e with e; omega
  refine ⟨?_, fun y hy => ?_⟩
  · rw [List.length_append, lcells_append]
    exact hr
  · rcases List.mem_append.1 hy with hy | hy
    · refine (h.lies y hy).keep (fun b ⟨h1, h2, h3⟩ => ?_) (fun b o ⟨h1, h2, h3⟩ => ?_)
      · have h5 := Nat.lt_of_lt_of_le h2 hb5.size
        exact ⟨h1, Nat.lt_of_lt_of_le h5 hg.size, hne6 b h5 h3⟩
      · exact (hk b o (Nat.lt_of_lt_of_le h2 hb5.size) h3).trans (hb5.cell (p := ⟨b, o, none⟩) h2)
    · rw [List.mem_singleton] at hy
      subst hy
      refine hx.keep (fun b ⟨h1, h2⟩ => ?_) (fun b o ⟨h1, h2⟩ => ?_)
      · have h3 : v.ownBlock ≠ some b := fun e => by have := hvb b e; omega
        exact ⟨by omega, Nat.lt_of_lt_of_le h2 hg.size, hne6 b h2 h3⟩
      · exact hk b o h2 (fun e => by have := hvb b e; omega)

/-- What a step tells, in a function. -/
def tellS (ls : List (Int × List (Int × Int))) (s : List (Int × Int) × Int) : Int := tellK ls.length (cTo ls s.1 s.1.length) s.2 s.1 (sumOf (tTo ls s.1 s.1.length))
def lineS (ls : List (Int × List (Int × Int))) (s : List (Int × Int) × Int) : Int × List (Int × Int) := (upI (cTo ls s.1 s.1.length) s.2, divT s.2 (sumOf (tTo ls s.1 s.1.length)))
/-- The lines behind the first steps. -/
def lnL (ls : List (Int × List (Int × Int))) (ss : List (List (Int × Int) × Int)) : Nat → List (Int × List (Int × Int))
  | 0 => ls
  | k + 1 => lnL ls ss k ++ [lineS (lnL ls ss k) (ss.getD k ([], 0))]
theorem lnL_len (ls : List (Int × List (Int × Int))) (ss : List (List (Int × Int) × Int)) : ∀ k, (lnL ls ss k).length = ls.length + k
  | 0 => rfl
  | k + 1 => by rw [lnL, List.length_append, lnL_len ls ss k]; rfl
inductive LinesIs (ls : List (Int × List (Int × Int))) (ss : List (List (Int × Int) × Int)) : Int → Int → List (Int × List (Int × Int)) → Prop
  | long : 4096 < ls.length ∨ 4096 < ss.length → LinesIs ls ss 2 (-1) []
  | prem (i : Nat) : ls.length ≤ 4096 → ss.length ≤ 4096 → i < ls.length → (∀ j, j < i → snd (ls.getD j (0, [])).1 (ls.getD j (0, [])).2 = true) → snd (ls.getD i (0, [])).1 (ls.getD i (0, [])).2 = false → LinesIs ls ss 5 i []
  | step (i : Nat) : ls.length ≤ 4096 → ss.length ≤ 4096 → lsOk ls → i < ss.length → (∀ j, j < i → tellS (lnL ls ss j) (ss.getD j ([], 0)) = 0) → tellS (lnL ls ss i) (ss.getD i ([], 0)) ≠ 0 → LinesIs ls ss (tellS (lnL ls ss i) (ss.getD i ([], 0))) i []
  | ok : ls.length ≤ 4096 → ss.length ≤ 4096 → lsOk ls → (∀ j, j < ss.length → tellS (lnL ls ss j) (ss.getD j ([], 0)) = 0) → LinesIs ls ss 0 (-1) (lnL ls ss ss.length)
theorem lines_is (ls : List (Int × List (Int × Int))) (ss : List (List (Int × Int) × Int)) : ∃ x at' L, LinesIs ls ss x at' L := by
  by_cases h : 4096 < ls.length ∨ 4096 < ss.length
  · exact ⟨_, _, _, .long h⟩
  · by_cases h1 : ∀ i, i < ls.length → snd (ls.getD i (0, [])).1 (ls.getD i (0, [])).2 = true
    · by_cases h2 : ∀ i, i < ss.length → decide (tellS (lnL ls ss i) (ss.getD i ([], 0)) = 0) = true
      · exact ⟨_, _, _, .ok (by omega) (by omega) h1 (fun j hj => by simpa using h2 j hj)⟩
      · obtain ⟨j, hj, h3, h4⟩ := first_no _ _ h2
        exact ⟨_, _, _, .step j (by omega) (by omega) h1 hj (fun i hi => by simpa using h3 i hi) (by simpa using h4)⟩
    · obtain ⟨j, hj, h3, h4⟩ := first_no _ _ h1
      exact ⟨_, _, _, .prem j (by omega) (by omega) hj h3 h4⟩
theorem okAt_mkC {l : List (Int × Int)} {i : Nat} (h : lastAt l i < (l.getD i (0, 0)).1 ∧ (l.getD i (0, 0)).2 ≠ 0 ∧ 0 ≤ (l.getD i (0, 0)).1 ∧ (l.getD i (0, 0)).1 < 1048576 ∧ -1073741824 ≤ (l.getD i (0, 0)).2 ∧ (l.getD i (0, 0)).2 ≤ 1073741824) : okAt l i = true := by
  unfold okAt chk mst wi
  simp only [Bool.and_eq_true, decide_eq_true_eq]
  exact ⟨h.1, h.2.1, ⟨h.2.2.1, h.2.2.2.1⟩, h.2.2.2.2⟩
theorem snd_of_sum {c : Int} {l R : List (Int × Int)} (h : IsSum l R) (hc : wi c 1073741824 = true) (hk : ∀ m ∈ R, wi m.2 1073741824 = true) (h64 : R.length ≤ 64) (hV : ∀ m ∈ l, 0 ≤ m.1 ∧ m.1 < 1048576) : snd c R = true := by
  refine snd_iff.2 ⟨hc, h64, fun i hi => okAt_mkC ?_⟩
  have hmem : R.getD i (0, 0) ∈ R := by rw [List.getD_eq_getElem?_getD, List.getElem?_eq_getElem hi]; simp
  obtain ⟨x, hx, hxe⟩ := h.comes hmem
  have hv := hV x hx
  have hw := hk _ hmem
  unfold wi at hw
  have hw : -1073741824 ≤ (R.getD i (0, 0)).2 ∧ (R.getD i (0, 0)).2 ≤ 1073741824 := by simpa using hw
  refine ⟨?_, h.nz _ hmem, by omega, by omega, hw.1, hw.2⟩
  by_cases h0 : i = 0
  · subst h0; rw [lastAt_zero]; omega
  · obtain ⟨j, rfl⟩ : ∃ j, i = j + 1 := ⟨i - 1, by omega⟩
    rw [lastAt_succ]
    have := List.pairwise_iff_getElem.1 h.up j (j + 1) (by omega) hi (by omega)
    rw [List.getD_eq_getElem?_getD, List.getElem?_eq_getElem (show j < R.length by omega), List.getD_eq_getElem?_getD, List.getElem?_eq_getElem hi]
    simpa using this
theorem tdiv_ne0 {k g : Int} (hk : k ≠ 0) (hd : k.tmod g = 0) : k.tdiv g ≠ 0 := fun h => hk (by
  have := Int.tmod_add_mul_tdiv k g
  rw [hd, h] at this
  omega)
/-- What a step that is taken comes to. -/
structure Took (ls : List (Int × List (Int × Int))) (s : List (Int × Int) × Int) : Prop where
  parts : partsOk ls s.1
  div : 1 ≤ s.2 ∧ s.2 ≤ 1073741824
  cin : wi (cTo ls s.1 s.1.length) 4398046511104 = true
  rin : allIn 4398046511104 (sumOf (tTo ls s.1 s.1.length)) = true
  all : allDiv s.2 (sumOf (tTo ls s.1 s.1.length)) = true
  cok : wi (lineS ls s).1 1073741824 = true
  rok : allIn 1073741824 (lineS ls s).2 = true
  len : (lineS ls s).2.length ≤ 64
theorem tellS_took {ls : List (Int × List (Int × Int))} {s : List (Int × Int) × Int} (hok : lsOk ls) (h : tellS ls s = 0) : Took ls s := by
  unfold tellS at h
  by_cases h1 : stepK ls.length s.1 s.2 = 0
  · obtain ⟨hp, hd⟩ := stepK_ok h1 hok
    by_cases h2 : wi (cTo ls s.1 s.1.length) 4398046511104 = false ∨ allIn 4398046511104 (sumOf (tTo ls s.1 s.1.length)) = false
    · rw [tellK_far h1 h2] at h; cases h
    · have h3 : wi (cTo ls s.1 s.1.length) 4398046511104 = true := by cases e : wi (cTo ls s.1 s.1.length) 4398046511104 <;> simp [e] at h2 ⊢
      have h4 : allIn 4398046511104 (sumOf (tTo ls s.1 s.1.length)) = true := by cases e : allIn 4398046511104 (sumOf (tTo ls s.1 s.1.length)) <;> simp [e] at h2 ⊢
      cases h5 : allDiv s.2 (sumOf (tTo ls s.1 s.1.length))
      · rw [tellK_div h1 h3 h4 h5] at h; cases h
      · rw [tellK_ok h1 h3 h4 h5] at h
        replace h : divK (lineS ls s).1 (lineS ls s).2 = 0 := h
        cases h6 : wi (lineS ls s).1 1073741824
        · rw [divK_far (.inl h6)] at h; cases h
        · cases h7 : allIn 1073741824 (lineS ls s).2
          · rw [divK_far (.inr h7)] at h; cases h
          · rw [divK_in h6 h7] at h
            by_cases h8 : 64 < (lineS ls s).2.length
            · rw [if_pos h8] at h; cases h
            · exact ⟨hp, hd, h3, h4, h5, h6, h7, by omega⟩
  · rw [tellK_step h1] at h; exact absurd h h1
/-- A divided sum is sound. -/
theorem tellS_ok {ls : List (Int × List (Int × Int))} {s : List (Int × Int) × Int} (hok : lsOk ls) (h : tellS ls s = 0) : snd (lineS ls s).1 (lineS ls s).2 = true := by
  have ht := tellS_took hok h
  have hS := sumOf_is (tTo ls s.1 s.1.length)
  refine snd_of_sum (l := (lineS ls s).2) ⟨?_, fun m hm => ?_, fun _ => rfl⟩ ht.cok (fun m hm => ?_) ht.len (fun m hm => ?_)
  · exact List.Pairwise.map _ (fun a b h => h) hS.up
  · obtain ⟨p, hp, rfl⟩ := List.mem_map.1 hm
    have := List.all_eq_true.1 ht.all p hp
    exact tdiv_ne0 (hS.nz p hp) (by simpa using this)
  · exact List.all_eq_true.1 ht.rok m hm
  · obtain ⟨p, hp, rfl⟩ := List.mem_map.1 hm
    obtain ⟨y, hy, hy2⟩ := hS.comes hp
    have := tTo_vars ht.parts _ (Nat.le_refl _) y hy
    show 0 ≤ p.1 ∧ p.1 < 1048576
    omega
theorem lnL_ok {ls : List (Int × List (Int × Int))} {ss : List (List (Int × Int) × Int)} (hok : lsOk ls) : ∀ k, (∀ j, j < k → tellS (lnL ls ss j) (ss.getD j ([], 0)) = 0) → lsOk (lnL ls ss k)
  | 0, _ => hok
  | k + 1, h => by
    have h1 := lnL_ok hok k (fun j hj => h j (by omega))
    intro i hi
    rw [lnL_len] at hi
    by_cases e : i < ls.length + k
    · have := h1 i (by rw [lnL_len]; exact e)
      rw [lnL]
      simp only [List.getD_eq_getElem?_getD] at this ⊢
      rw [List.getElem?_append_left (by rw [lnL_len]; exact e)]
      exact this
    · have e2 : i = (lnL ls ss k).length := by rw [lnL_len]; omega
      subst e2
      rw [lnL]
      simp only [List.getD_eq_getElem?_getD]
      rw [List.getElem?_concat_length, Option.getD_some]
      exact tellS_ok h1 (h k (by omega))
/-- Steps in a row. -/
def SLies (B : Nat) (w : World) (a : Option Addr) (ss : List (List (Int × Int) × Int)) : Prop :=
  ∀ i, i < ss.length → ∃ b off ta tcap, a = some ⟨b, off, none⟩ ∧ b < B ∧ (ss.getD i ([], 0)).1.length ≤ 9223372036854775807 ∧ w.cell? ⟨b, off + i * 2, none⟩ = some (.slice ta (ss.getD i ([], 0)).1.length tcap) ∧ w.cell? ⟨b, off + i * 2 + 1, none⟩ = some (.int .i64 (ss.getD i ([], 0)).2) ∧ Lies B w ta (ss.getD i ([], 0)).1
theorem SLies.below {B : Nat} {w w' : World} {a : Option Addr} {ss : List (List (Int × Int) × Int)} (h : SLies B w a ss) (hb : Below B w w') : SLies B w' a ss := fun i hi => by
  obtain ⟨b, off, ta, tcap, ha, hlt, hm, h1, h2, h3⟩ := h i hi
  exact ⟨b, off, ta, tcap, ha, hlt, hm, (hb.cell (p := ⟨b, _, none⟩) hlt).trans h1, (hb.cell (p := ⟨b, _, none⟩) hlt).trans h2, h3.below hb⟩
/-- An error: a code, or a place with a code. -/
def ErrIs (B : Nat) (x at' : Int) (er : Value) (w : World) : Prop :=
  (at' < 0 → er = codeV x) ∧ (0 ≤ at' → ∃ g, er = .iface 51 (.pointer (some ⟨g, 0, none⟩)) ∧ B ≤ g ∧ g < w.heap.size ∧ w.cell? ⟨g, 0, none⟩ = some (.int .i64 at') ∧ w.cell? ⟨g, 1, none⟩ = some (codeV x))
def LinesEnd (B : Nat) (x at' : Int) (L : List (Int × List (Int × Int))) (w : World) (e : Ending) (w' : World) : Prop :=
  ∃ v er xs, e = .returned (.tuple #[v, er]) ∧ LRow B xs v w' ∧ lforms xs = L ∧ ErrIs B x at' er w' ∧ Below B w w'
end Go.Proofs.YtmjhjacbhflcpaaDoor

namespace Go.Proofs.YtmjhjacbhflcpaaDoor
open Go.RowKit

def scale (x : Int) (l : List (Int × Int)) : List (Int × Int) := l.map fun m => (m.1, x * m.2)
theorem scale_snoc (x : Int) (l : List (Int × Int)) (m : Int × Int) : scale x (l ++ [m]) = scale x l ++ [(m.1, x * m.2)] := by simp [scale]
theorem scale_len (x : Int) (l : List (Int × Int)) : (scale x l).length = l.length := by simp [scale]

theorem mul_in {x k : Int} (hx : -4096 ≤ x ∧ x ≤ 4096) (hk : -1073741824 ≤ k ∧ k ≤ 1073741824) : -4398046511104 ≤ x * k ∧ x * k ≤ 4398046511104 := by
  have h1 : (x * k).natAbs ≤ 4096 * 1073741824 := by
    rw [Int.natAbs_mul]; exact Nat.mul_le_mul (by omega) (by omega)
  omega

theorem two_at2 (w : World) (o : Obj) (x y : Value) (t : TypeId) : ∀ j u, [x, y][j]? = some u → ((w.alloc o).alloc (.cells #[x, y] t)).cell? ((⟨w.heap.size + 1, 0, none⟩ : Addr).add j) = some u := by
  intro j u hj
  have h := cell_two_new' (w.alloc o) x y t j u hj
  have e : (w.alloc o).heap.size = w.heap.size + 1 := by simp
  rwa [e] at h

/-- What comes of a sound form's terms. -/
theorem snd_terms {c : Int} {l : List (Int × Int)} (h : snd c l = true) : ∀ m ∈ l, (0 ≤ m.1 ∧ m.1 < 1048576) ∧ -1073741824 ≤ m.2 ∧ m.2 ≤ 1073741824 := fun m hm => by
  obtain ⟨i, hi, rfl⟩ := List.getElem_of_mem hm
  have := okAt_in ((snd_iff.1 h).2.2 i hi)
  rw [List.getD_eq_getElem?_getD, List.getElem?_eq_getElem hi] at this
  simp only [Option.getD_some] at this
  omega
theorem both_terms {ca cb x y : Int} {la lb : List (Int × Int)} (ha : snd ca la = true) (hb : snd cb lb = true) (hx : -4096 ≤ x ∧ x ≤ 4096) (hy : -4096 ≤ y ∧ y ≤ 4096) :
    Bd 4398046511104 (scale x la ++ scale y lb) ∧ ∀ m ∈ scale x la ++ scale y lb, 0 ≤ m.1 ∧ m.1 < 1048576 := by
  have h : ∀ m ∈ scale x la ++ scale y lb, (0 ≤ m.1 ∧ m.1 < 1048576) ∧ -4398046511104 ≤ m.2 ∧ m.2 ≤ 4398046511104 := fun m hm => by
    rcases List.mem_append.1 hm with hm | hm
    · obtain ⟨p, hp, rfl⟩ := List.mem_map.1 hm
      have := snd_terms ha p hp
      exact ⟨this.1, mul_in hx this.2⟩
    · obtain ⟨p, hp, rfl⟩ := List.mem_map.1 hm
      have := snd_terms hb p hp
      exact ⟨this.1, mul_in hy this.2⟩
  exact ⟨fun m hm => (h m hm).2, fun m hm => (h m hm).1⟩

/-- Add's own three blocks. -/
structure Three (w W : World) (N : Nat) (ca cb : Int) (a b : Option Addr) (na nb capa capb : Nat) : Prop where
  lt : N + 2 < W.heap.size
  a0 : W.cell? ⟨N, 0, none⟩ = some (.int .i64 ca)
  a1 : W.cell? ⟨N, 1, none⟩ = some (.slice a na capa)
  b0 : W.cell? ⟨N + 1, 0, none⟩ = some (.int .i64 cb)
  b1 : W.cell? ⟨N + 1, 1, none⟩ = some (.slice b nb capb)
  r0 : W.cell? ⟨N + 2, 0, none⟩ = some (.int .i64 0)
  r1 : W.cell? ⟨N + 2, 1, none⟩ = some (.slice none 0 0)
  rf : ∀ o, W.frozen? ⟨N + 2, o, none⟩ = false
  bel : Below N w W
theorem Three.below {w W W' : World} {N B : Nat} {ca cb : Int} {a b : Option Addr} {na nb capa capb : Nat} (h : Three w W N ca cb a b na nb capa capb) (hb : Below B W W') (hB : N + 2 < B) : Three w W' N ca cb a b na nb capa capb :=
  ⟨Nat.lt_of_lt_of_le h.lt hb.size, (hb.cell (p := ⟨N, 0, none⟩) (show N < B by omega)).trans h.a0, (hb.cell (p := ⟨N, 1, none⟩) (show N < B by omega)).trans h.a1, (hb.cell (p := ⟨N + 1, 0, none⟩) (show N + 1 < B by omega)).trans h.b0, (hb.cell (p := ⟨N + 1, 1, none⟩) (show N + 1 < B by omega)).trans h.b1,
    (hb.cell (p := ⟨N + 2, 0, none⟩) hB).trans h.r0, (hb.cell (p := ⟨N + 2, 1, none⟩) hB).trans h.r1, fun o => (hb.frozen (p := ⟨N + 2, o, none⟩) hB).trans (h.rf o), h.bel.trans (hb.mono (by omega))⟩
theorem three_start (w : World) (ca cb : Int) (a b : Option Addr) (na nb capa capb : Nat) : Three w (((w.alloc (.cells #[.int .i64 ca, .slice a na capa] 49)).alloc (.cells #[.int .i64 cb, .slice b nb capb] 49)).alloc (.cells #[.int .i64 0, .slice none 0 0] 49)) w.heap.size ca cb a b na nb capa capb :=
  ⟨by simp, by simp [go_sem], by simp [go_sem], by simp [go_sem], by simp [go_sem], by simp [go_sem], by simp [go_sem], fun o => by simp [go_sem], (((Below.refl _ w).alloc (Nat.le_refl _) _).alloc (by simp) _).alloc (by simp; omega) _⟩

end Go.Proofs.YtmjhjacbhflcpaaDoor

namespace Go.Proofs.YtmjhjacbhflcpaaDoor

/-- The next variable behind L, of the first terms. -/
def nvStep (L v : Int) (m : Int × Int) : Int := if L < m.1 ∧ (v < 0 ∨ m.1 < v) then m.1 else v
def nv (L : Int) (l : List (Int × Int)) : Int := l.foldl (nvStep L) (-1)
theorem nv_snoc (L : Int) (l : List (Int × Int)) (m : Int × Int) : nv L (l ++ [m]) = nvStep L (nv L l) m := by unfold nv; rw [List.foldl_append]; rfl
theorem nv_spec (L : Int) (l : List (Int × Int)) (hV : ∀ m ∈ l, 0 ≤ m.1 ∧ m.1 < 1048576) : ∀ k, k ≤ l.length →
    (nv L (l.take k) = -1 ∧ ∀ m ∈ l.take k, m.1 ≤ L) ∨ (0 ≤ nv L (l.take k) ∧ nv L (l.take k) < 1048576 ∧ L < nv L (l.take k) ∧ ∀ m ∈ l.take k, L < m.1 → nv L (l.take k) ≤ m.1)
  | 0, _ => .inl ⟨by simp [nv], fun m hm => by simp at hm⟩
  | k + 1, hk => by
    have hm := hV (l.getD k (0, 0)) (by rw [List.getD_eq_getElem?_getD, List.getElem?_eq_getElem (by omega)]; simp)
    have ih := nv_spec L l hV k (by omega)
    rw [take_snoc l k (by omega), nv_snoc]
    generalize l.getD k (0, 0) = m at hm
    generalize nv L (l.take k) = v at ih
    unfold nvStep
    by_cases c : L < m.1 ∧ (v < 0 ∨ m.1 < v)
    · rw [if_pos c]
      refine .inr ⟨hm.1, hm.2, c.1, fun x hx hxL => ?_⟩
      rcases List.mem_append.1 hx with hx | hx
      · rcases ih with ⟨_, h2⟩ | ⟨_, _, _, h4⟩
        · have := h2 x hx; omega
        · have := h4 x hx hxL; omega
      · simp at hx; subst hx; exact Int.le_refl _
    · rw [if_neg c]
      rcases ih with ⟨h1, h2⟩ | ⟨h1, h2, h3, h4⟩
      · refine .inl ⟨h1, fun x hx => ?_⟩
        rcases List.mem_append.1 hx with hx | hx
        · exact h2 x hx
        · simp at hx; subst hx; omega
      · refine .inr ⟨h1, h2, h3, fun x hx hxL => ?_⟩
        rcases List.mem_append.1 hx with hx | hx
        · exact h4 x hx hxL
        · simp at hx; subst hx; omega

/-- The part of a sum up to a variable. -/
def upTo (R : List (Int × Int)) (L : Int) : List (Int × Int) := R.filter fun m => decide (m.1 ≤ L)
theorem upTo_up {R : List (Int × Int)} (h : Up R) (L : Int) : Up (upTo R L) := h.filter _
theorem coef_upTo (R : List (Int × Int)) (L v : Int) : coef (upTo R L) v = if v ≤ L then coef R v else 0 := by
  induction R with
  | nil => simp [upTo, coef]
  | cons m r ih =>
    unfold upTo at ih ⊢
    by_cases hm : m.1 ≤ L
    · rw [List.filter_cons_of_pos (by simp [hm]), coef_cons, ih, coef_cons]
      by_cases hv : m.1 = v
      · subst hv; simp [hm]
      · by_cases hvL : v ≤ L <;> simp [hv, hvL]
    · rw [List.filter_cons_of_neg (by simp [hm]), ih, coef_cons]
      by_cases hv : m.1 = v
      · subst hv; simp [hm]
      · simp [hv]
theorem upTo_start {l R : List (Int × Int)} (hR : IsSum l R) (hV : ∀ m ∈ l, 0 ≤ m.1 ∧ m.1 < 1048576) : upTo R (-1) = [] := by
  unfold upTo
  rw [List.filter_eq_nil_iff]
  intro m hm
  obtain ⟨x, hx, hxe⟩ := hR.comes hm
  have := hV x hx
  simp; omega
theorem upTo_end {l R : List (Int × Int)} (hR : IsSum l R) {L : Int} (h : ∀ m ∈ l, m.1 ≤ L) : upTo R L = R := by
  unfold upTo
  rw [List.filter_eq_self]
  intro m hm
  obtain ⟨x, hx, hxe⟩ := hR.comes hm
  have := h x hx
  simp; omega
theorem upTo_step {l R : List (Int × Int)} (hR : IsSum l R) {L v : Int} (hLv : L < v) (h : ∀ m ∈ l, L < m.1 → v ≤ m.1) :
    upTo R v = upTo R L ++ (if coef l v = 0 then [] else [(v, coef l v)]) := by
  have hnz : ∀ m ∈ upTo R v, m.2 ≠ 0 := fun m hm => hR.nz m (List.mem_filter.1 hm).1
  have hnz' : ∀ m ∈ upTo R L ++ (if coef l v = 0 then [] else [(v, coef l v)]), m.2 ≠ 0 := fun m hm => by
    rcases List.mem_append.1 hm with hm | hm
    · exact hR.nz m (List.mem_filter.1 hm).1
    · by_cases e : coef l v = 0
      · rw [if_pos e] at hm; cases hm
      · rw [if_neg e] at hm; simp at hm; subst hm; exact e
  refine sum_unique (upTo_up hR.up v) ?_ hnz hnz' fun u => ?_
  · refine List.pairwise_append.2 ⟨upTo_up hR.up L, ?_, fun a ha b hb => ?_⟩
    · by_cases e : coef l v = 0 <;> simp [e]
    · have ha := (List.mem_filter.1 ha).2
      simp only [decide_eq_true_eq] at ha
      by_cases e : coef l v = 0
      · rw [if_pos e] at hb; cases hb
      · rw [if_neg e] at hb; simp at hb; subst hb; show a.1 < v; omega
  · rw [coef_append, coef_upTo, coef_upTo, hR.eq]
    by_cases hu : u ≤ L
    · have h1 : u ≤ v := by omega
      have h2 : ¬ v = u := by omega
      rw [if_pos h1, if_pos hu]
      by_cases e : coef l v = 0
      · rw [if_pos e, coef_nil]; omega
      · rw [if_neg e, coef_cons, coef_nil, if_neg h2]; omega
    · rw [if_neg hu]
      by_cases huv : u = v
      · subst huv
        rw [if_pos (Int.le_refl _)]
        by_cases e : coef l u = 0
        · rw [if_pos e, coef_nil, e]; rfl
        · rw [if_neg e, coef_cons, coef_nil, if_pos rfl]; omega
      · have h2 : ¬ v = u := by omega
        have h4 : coef (if coef l v = 0 then [] else [(v, coef l v)]) u = 0 := by
          by_cases e : coef l v = 0
          · rw [if_pos e]; rfl
          · rw [if_neg e, coef_cons, coef_nil, if_neg h2]; rfl
        rw [h4]
        by_cases hle : u ≤ v
        · rw [if_pos hle, coef_none (fun x hx hxe => by have := h x hx (by omega); omega)]; omega
        · rw [if_neg hle]; omega

theorem coef_bd (l : List (Int × Int)) (h : Bd 4398046511104 l) (v : Int) : ∀ k, k ≤ l.length → -(k * 4398046511104 : Int) ≤ coef (l.take k) v ∧ coef (l.take k) v ≤ k * 4398046511104
  | 0, _ => by simp [coef]
  | k + 1, hk => by
    have h1 := coef_bd l h v k (by omega)
    have h2 := h (l.getD k (0, 0)) (by rw [List.getD_eq_getElem?_getD, List.getElem?_eq_getElem (by omega)]; simp)
    rw [take_snoc l k (by omega), coef_append, coef_cons, coef_nil]
    split <;> omega

theorem sum_len {l R : List (Int × Int)} (h : IsSum l R) : R.length ≤ l.length := by
  have hA : Asc (l.mergeSort fun a b => decide (a.1 ≤ b.1)) := by
    intro i j hij hj
    have hs := List.pairwise_mergeSort (le := fun a b : Int × Int => decide (a.1 ≤ b.1)) (fun a b c h1 h2 => by simp at *; omega) (fun a b => by simp; omega) l
    have := List.pairwise_iff_getElem.1 hs i j (by omega) hj hij
    simp only [List.getD_eq_getElem?_getD]
    rw [List.getElem?_eq_getElem hj, List.getElem?_eq_getElem (by omega)]
    simpa using this
  rw [h.unique ((tog_isSum _ hA).perm (List.mergeSort_perm _ _))]
  refine Nat.le_trans (List.length_filter_le _ _) ?_
  have := tog_len (l.mergeSort fun a b => decide (a.1 ≤ b.1)) _ (Nat.le_refl _)
  rw [List.take_length] at this
  rwa [List.length_mergeSort] at this

/-- All coefficients up to a variable may be. -/
def okTo (R : List (Int × Int)) (L : Int) : Bool := (upTo R L).all fun m => wi m.2 1073741824
end Go.Proofs.YtmjhjacbhflcpaaDoor
