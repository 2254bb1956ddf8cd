/- Lines in a row of the call's own; slices.Clone; what all lines are. -/
import Derived.Test.YtmjhjacbhflcpaaDoorMl06
import Derived.Laws.MakeOwn
import Derived.OwnWalk
set_option linter.unusedVariables false
set_option linter.unusedSimpArgs false
namespace Go.Proofs.YtmjhjacbhflcpaaDoor
open Go.RowKit Go.Maps

def LiesS (S : Nat → Prop) (w : World) (a : Option Addr) (l : List (Int × Int)) : Prop :=
  ∀ i, i < l.length → ∃ b off, a = some ⟨b, off, none⟩ ∧ S b ∧ w.cell? ⟨b, off + i * 2, none⟩ = some (.int .i64 (l.getD i (0, 0)).1) ∧ w.cell? ⟨b, off + i * 2 + 1, none⟩ = some (.int .i64 (l.getD i (0, 0)).2)
theorem LiesS.lies {S : Nat → Prop} {w : World} {B : Nat} {a : Option Addr} {l : List (Int × Int)} (hS : ∀ b, S b → b < B) (h : LiesS S w a l) : Lies B w a l := fun i hi => by
  obtain ⟨b, off, e, hb, r⟩ := h i hi
  exact ⟨b, off, e, hS b hb, r⟩
theorem LiesS.keep {S S' : Nat → Prop} {w w' : World} {a : Option Addr} {l : List (Int × Int)} (hS : ∀ b, S b → S' b) (hk : ∀ b o, S b → w'.cell? ⟨b, o, none⟩ = w.cell? ⟨b, o, none⟩) (h : LiesS S w a l) : LiesS S' w' a l := fun i hi => by
  obtain ⟨b, off, e, hb, r1, r2⟩ := h i hi
  exact ⟨b, off, e, hS b hb, (hk _ _ hb).trans r1, (hk _ _ hb).trans r2⟩
theorem Row.liesS {B : Nat} {l : List (Int × Int)} {v : Value} {w : World} (h : Row B l v w) : ∃ a cap, v = .slice a l.length cap ∧ LiesS (fun b => B ≤ b ∧ b < w.heap.size) w a l := by
  obtain ⟨a, cap, rfl, hl, _⟩ := h.lies
  refine ⟨a, cap, rfl, fun i hi => ?_⟩
  obtain ⟨b, off, rfl, hb, g0, g1⟩ := hl i hi
  exact ⟨b, off, rfl, ⟨(World.ownsRow.lt h b rfl).1, hb⟩, g0, g1⟩

set_option maxHeartbeats 800000 in
theorem clone_any (a : Option Addr) (n cap : Nat) (l : List (Int × Int)) (w : World) (hn : l.length = n) (hm : n ≤ 8192) (hl : Lies w.heap.size w a l) :
    Calls Tryd.prog 16 #[.slice a n cap] w (RowEnd w.heap.size l w) := by
  have he := fun W : World => Lib.run_eql_slice_nil (P := Tryd.prog) W 47 46 a n cap 0 0 Tryd.underlying47
  cases a with
  | none =>
    have hn0 : n = 0 := by
      cases n with
      | zero => rfl
      | succ n => obtain ⟨_, _, e, _⟩ := hl 0 (by omega); cases e
    subst hn0
    have HN := Lib.hid hn
    clear hn hl
    go_enter Tryd.func16, Tryd.ntmps16
    go_wp2_with fail
    go_ret
    exact ⟨_, rfl, by rw [List.eq_nil_of_length_eq_zero HN.out]; exact World.ownsRow_nil _ _ _ _, Below.refl _ _⟩
  | some a =>
    obtain ⟨i0, hi, hz0, hz1, hz2⟩ := info_parts Tryd.infoMono
    have HN := Lib.hid hn
    have HL := Lib.hid hl
    clear hn hl
    go_enter Tryd.func16, Tryd.ntmps16
    have hown : (w.alloc (.cells #[] 46)).ownsRow w.heap.size 46 2 (.slice (some ⟨w.heap.size, 0, none⟩) 0 0) 0 [] := World.ownsRow_made w #[] 0 (Nat.le_refl _) (by decide) rfl
    have HB := Lib.hid ((Below.refl w.heap.size w).alloc (Nat.le_refl _) (.cells #[] 46))
    go_wp2_with (at_builtin; refine wpList_append_own _ rfl _ _ 47 rfl w.heap.size 46 i0 _ 2 16 Tryd.underlying47 hi hz0 hz1 hz2 rfl (by decide) _ _ _ rfl hown a n cap (flat l) rfl ?c1 ?c2 ?c3 ?c4 ?c5 ?c6 ?_)
    case c1 => rw [flat_len, HN.out]
    case c2 => exact (HL.out.below HB.out).news
    case c3 => exact flat_cells l
    case c4 => unfold maxLen; omega
    case c5 => omega
    case c6 => simp
    intro v' w1 hown' hgrow _
    go_wp2_with fail
    go_ret
    refine ⟨_, rfl, ?_, HB.out.grown hgrow (by simp) (fun k hk => (hown.lt k hk).1)⟩
    unfold Row
    rw [HN.out]
    simpa using hown'

theorem lt_of_some {W : World} {b : Nat} {o : Obj} (h : W.heap[b]? = some o) : b < W.heap.size := (Array.getElem?_eq_some_iff.1 h).1
/-- A line, and where its terms lie. -/
structure LT where
  c : Int
  a : Option Addr
  cap : Nat
  t : List (Int × Int)
def lcells (xs : List LT) : List Value := xs.flatMap fun x => [.int .i64 x.c, .slice x.a x.t.length x.cap]
def lforms (xs : List LT) : List (Int × List (Int × Int)) := xs.map fun x => (x.c, x.t)
theorem lforms_len (xs : List LT) : (lforms xs).length = xs.length := by simp [lforms]
theorem lforms_append (xs ys : List LT) : lforms (xs ++ ys) = lforms xs ++ lforms ys := by simp [lforms]
theorem lcells_append (xs ys : List LT) : lcells (xs ++ ys) = lcells xs ++ lcells ys := by simp [lcells]
theorem lcells_len (xs : List LT) : (lcells xs).length = xs.length * 2 := by
  induction xs with
  | nil => rfl
  | cons x r ih => simp [lcells] at ih ⊢; omega
theorem lcells_get : ∀ (xs : List LT) (i : Nat) (x : LT), xs[i]? = some x → (lcells xs)[i * 2]? = some (.int .i64 x.c) ∧ (lcells xs)[i * 2 + 1]? = some (.slice x.a x.t.length x.cap)
  | y :: r, 0, x, h => by obtain rfl : y = x := by simpa using h
                          exact ⟨rfl, rfl⟩
  | y :: r, i + 1, x, h => by
    have := lcells_get r i x (by simpa using h)
    have e : lcells (y :: r) = .int .i64 y.c :: .slice y.a y.t.length y.cap :: lcells r := rfl
    rw [e, show (i + 1) * 2 = i * 2 + 1 + 1 by omega]
    simpa using this
structure LRow (B : Nat) (xs : List LT) (v : Value) (w : World) : Prop where
  row : w.ownsRow B 49 2 v xs.length (lcells xs)
  lies : ∀ x ∈ xs, LiesS (fun b => B ≤ b ∧ b < w.heap.size ∧ v.ownBlock ≠ some b) w x.a x.t
theorem LRow.nil (B : Nat) (w : World) : LRow B [] (.slice none 0 0) w := ⟨World.ownsRow_nil _ _ _ _, fun x hx => by cases hx⟩
theorem LRow.llies {B : Nat} {xs : List LT} {v : Value} {w : World} (h : LRow B xs v w) : ∃ a cap, v = .slice a xs.length cap ∧ LLies w.heap.size w a (lforms xs) := by
  have hr := h.row
  have hc := fun g => World.ownsRow.cells hr (g := g)
  have hlt := World.ownsRow.lt hr
  obtain ⟨_, h1 | ⟨g, cap, cur, hv, h2⟩⟩ := hr
  · refine ⟨none, 0, by rw [h1.1, h1.2], fun i hi => ?_⟩
    rw [lforms_len] at hi; omega
  · have hl := h.lies
    subst hv
    refine ⟨some ⟨g, 0, none⟩, cap, rfl, fun i hi => ?_⟩
    rw [lforms_len] at hi
    have hx : xs[i]? = some xs[i] := List.getElem?_eq_getElem hi
    obtain ⟨g1, g2⟩ := lcells_get xs i _ hx
    have e : (lforms xs).getD i (0, []) = (xs[i].c, xs[i].t) := by simp [lforms, List.getD_eq_getElem?_getD, hi]
    rw [e]
    refine ⟨g, 0, xs[i].a, xs[i].cap, rfl, (hlt g rfl).2, ?_, ?_, (hl _ (List.getElem_mem hi)).lies (fun b hb => hb.2.1)⟩
    · have := hc g rfl (i * 2) _ g1
      rwa [show (⟨g, 0, none⟩ : Addr).add (i * 2) = ⟨g, 0 + i * 2, none⟩ by unfold Addr.add; split <;> simp_all] at this
    · have := hc g rfl (i * 2 + 1) _ g2
      rwa [show (⟨g, 0, none⟩ : Addr).add (i * 2 + 1) = ⟨g, 0 + i * 2 + 1, none⟩ by unfold Addr.add; simp] at this
/-- What is made beside it leaves it as it is. -/
theorem LRow.below {B : Nat} {xs : List LT} {v : Value} {w w' : World} (h : LRow B xs v w) (hb : Below w.heap.size w w') : LRow B xs v w' :=
  ⟨World.ownsRow.kept (row := none) h.row ⟨hb.os, hb.tape, hb.output, hb.size, fun q hq _ => hb.block q hq⟩ (by cases v.ownBlock <;> simp), fun x hx => (h.lies x hx).keep (fun b ⟨h1, h2, h3⟩ => ⟨h1, Nat.lt_of_lt_of_le h2 hb.size, h3⟩) (fun b o ⟨_, h2, _⟩ => hb.cell (p := ⟨b, o, none⟩) h2)⟩
/-- One line more. -/
theorem LRow.step {B : Nat} {xs : List LT} {x : LT} {v v6 : Value} {w w5 w6 : World} {g H : Nat} (h : LRow B xs v w) (hB : B ≤ w.heap.size) (hb5 : Below w.heap.size w w5) (hx : LiesS (fun b => w.heap.size ≤ b ∧ b < w5.heap.size) w5 x.a x.t) (hg : w5.grownBy w6 v.ownBlock) (hH : w5.heap.size ≤ H)
    (hv : v6.ownBlock = some g) (hat : v.ownBlock = some g ∨ g = H) (hr : w6.ownsRow B 49 2 v6 (xs.length + 1) (lcells xs ++ [.int .i64 x.c, .slice x.a x.t.length x.cap])) : LRow B (xs ++ [x]) v6 w6 := by
  have hvb : ∀ b, v.ownBlock = some b → b < w.heap.size := fun b e => (World.ownsRow.lt h.row b e).2
  have hk : ∀ b o, b < w5.heap.size → v.ownBlock ≠ some b → w6.cell? ⟨b, o, none⟩ = w5.cell? ⟨b, o, none⟩ := fun b o hb hne => World.cell?_of_block (hg.block b hb (fun e => hne e.symm))
  have hne6 : ∀ b, b < w5.heap.size → v.ownBlock ≠ some b → v6.ownBlock ≠ some b := fun b hb hne e => by
    rw [hv] at e
    rcases hat with hat | hat
    · exact hne (hat.trans e)
    · injection e with e; omega
  refine ⟨?_, fun y hy => ?_⟩
  · rw [List.length_append, lcells_append]
    exact hr
  · rcases List.mem_append.1 hy with hy | hy
    · refine (h.lies y hy).keep (fun b ⟨h1, h2, h3⟩ => ?_) (fun b o ⟨h1, h2, h3⟩ => ?_)
      · have h5 := Nat.lt_of_lt_of_le h2 hb5.size
        exact ⟨h1, Nat.lt_of_lt_of_le h5 hg.size, hne6 b h5 h3⟩
      · exact (hk b o (Nat.lt_of_lt_of_le h2 hb5.size) h3).trans (hb5.cell (p := ⟨b, o, none⟩) h2)
    · rw [List.mem_singleton] at hy
      subst hy
      refine hx.keep (fun b ⟨h1, h2⟩ => ?_) (fun b o ⟨h1, h2⟩ => ?_)
      · have h3 : v.ownBlock ≠ some b := fun e => by have := hvb b e; omega
        exact ⟨by omega, Nat.lt_of_lt_of_le h2 hg.size, hne6 b h2 h3⟩
      · exact hk b o h2 (fun e => by have := hvb b e; omega)

/-- What a step tells, in a function. -/
def tellS (ls : List (Int × List (Int × Int))) (s : List (Int × Int) × Int) : Int := tellK ls.length (cTo ls s.1 s.1.length) s.2 s.1 (sumOf (tTo ls s.1 s.1.length))
def lineS (ls : List (Int × List (Int × Int))) (s : List (Int × Int) × Int) : Int × List (Int × Int) := (upI (cTo ls s.1 s.1.length) s.2, divT s.2 (sumOf (tTo ls s.1 s.1.length)))
/-- The lines behind the first steps. -/
def lnL (ls : List (Int × List (Int × Int))) (ss : List (List (Int × Int) × Int)) : Nat → List (Int × List (Int × Int))
  | 0 => ls
  | k + 1 => lnL ls ss k ++ [lineS (lnL ls ss k) (ss.getD k ([], 0))]
theorem lnL_len (ls : List (Int × List (Int × Int))) (ss : List (List (Int × Int) × Int)) : ∀ k, (lnL ls ss k).length = ls.length + k
  | 0 => rfl
  | k + 1 => by rw [lnL, List.length_append, lnL_len ls ss k]; rfl
inductive LinesIs (ls : List (Int × List (Int × Int))) (ss : List (List (Int × Int) × Int)) : Int → Int → List (Int × List (Int × Int)) → Prop
  | long : 4096 < ls.length ∨ 4096 < ss.length → LinesIs ls ss 2 (-1) []
  | prem (i : Nat) : ls.length ≤ 4096 → ss.length ≤ 4096 → i < ls.length → (∀ j, j < i → snd (ls.getD j (0, [])).1 (ls.getD j (0, [])).2 = true) → snd (ls.getD i (0, [])).1 (ls.getD i (0, [])).2 = false → LinesIs ls ss 5 i []
  | step (i : Nat) : ls.length ≤ 4096 → ss.length ≤ 4096 → lsOk ls → i < ss.length → (∀ j, j < i → tellS (lnL ls ss j) (ss.getD j ([], 0)) = 0) → tellS (lnL ls ss i) (ss.getD i ([], 0)) ≠ 0 → LinesIs ls ss (tellS (lnL ls ss i) (ss.getD i ([], 0))) i []
  | ok : ls.length ≤ 4096 → ss.length ≤ 4096 → lsOk ls → (∀ j, j < ss.length → tellS (lnL ls ss j) (ss.getD j ([], 0)) = 0) → LinesIs ls ss 0 (-1) (lnL ls ss ss.length)
theorem lines_is (ls : List (Int × List (Int × Int))) (ss : List (List (Int × Int) × Int)) : ∃ x at' L, LinesIs ls ss x at' L := by
  by_cases h : 4096 < ls.length ∨ 4096 < ss.length
  · exact ⟨_, _, _, .long h⟩
  · by_cases h1 : ∀ i, i < ls.length → snd (ls.getD i (0, [])).1 (ls.getD i (0, [])).2 = true
    · by_cases h2 : ∀ i, i < ss.length → decide (tellS (lnL ls ss i) (ss.getD i ([], 0)) = 0) = true
      · exact ⟨_, _, _, .ok (by omega) (by omega) h1 (fun j hj => by simpa using h2 j hj)⟩
      · obtain ⟨j, hj, h3, h4⟩ := first_no _ _ h2
        exact ⟨_, _, _, .step j (by omega) (by omega) h1 hj (fun i hi => by simpa using h3 i hi) (by simpa using h4)⟩
    · obtain ⟨j, hj, h3, h4⟩ := first_no _ _ h1
      exact ⟨_, _, _, .prem j (by omega) (by omega) hj h3 h4⟩
theorem okAt_mkC {l : List (Int × Int)} {i : Nat} (h : lastAt l i < (l.getD i (0, 0)).1 ∧ (l.getD i (0, 0)).2 ≠ 0 ∧ 0 ≤ (l.getD i (0, 0)).1 ∧ (l.getD i (0, 0)).1 < 1048576 ∧ -1073741824 ≤ (l.getD i (0, 0)).2 ∧ (l.getD i (0, 0)).2 ≤ 1073741824) : okAt l i = true := by
  unfold okAt chk mst wi
  simp only [Bool.and_eq_true, decide_eq_true_eq]
  exact ⟨h.1, h.2.1, ⟨h.2.2.1, h.2.2.2.1⟩, h.2.2.2.2⟩
theorem snd_of_sum {c : Int} {l R : List (Int × Int)} (h : IsSum l R) (hc : wi c 1073741824 = true) (hk : ∀ m ∈ R, wi m.2 1073741824 = true) (h64 : R.length ≤ 64) (hV : ∀ m ∈ l, 0 ≤ m.1 ∧ m.1 < 1048576) : snd c R = true := by
  refine snd_iff.2 ⟨hc, h64, fun i hi => okAt_mkC ?_⟩
  have hmem : R.getD i (0, 0) ∈ R := by rw [List.getD_eq_getElem?_getD, List.getElem?_eq_getElem hi]; simp
  obtain ⟨x, hx, hxe⟩ := h.comes hmem
  have hv := hV x hx
  have hw := hk _ hmem
  unfold wi at hw
  have hw : -1073741824 ≤ (R.getD i (0, 0)).2 ∧ (R.getD i (0, 0)).2 ≤ 1073741824 := by simpa using hw
  refine ⟨?_, h.nz _ hmem, by omega, by omega, hw.1, hw.2⟩
  by_cases h0 : i = 0
  · subst h0; rw [lastAt_zero]; omega
  · obtain ⟨j, rfl⟩ : ∃ j, i = j + 1 := ⟨i - 1, by omega⟩
    rw [lastAt_succ]
    have := List.pairwise_iff_getElem.1 h.up j (j + 1) (by omega) hi (by omega)
    rw [List.getD_eq_getElem?_getD, List.getElem?_eq_getElem (show j < R.length by omega), List.getD_eq_getElem?_getD, List.getElem?_eq_getElem hi]
    simpa using this
theorem tdiv_ne0 {k g : Int} (hk : k ≠ 0) (hd : k.tmod g = 0) : k.tdiv g ≠ 0 := fun h => hk (by
  have := Int.tmod_add_mul_tdiv k g
  rw [hd, h] at this
  omega)
/-- What a step that is taken comes to. -/
structure Took (ls : List (Int × List (Int × Int))) (s : List (Int × Int) × Int) : Prop where
  parts : partsOk ls s.1
  div : 1 ≤ s.2 ∧ s.2 ≤ 1073741824
  cin : wi (cTo ls s.1 s.1.length) 4398046511104 = true
  rin : allIn 4398046511104 (sumOf (tTo ls s.1 s.1.length)) = true
  all : allDiv s.2 (sumOf (tTo ls s.1 s.1.length)) = true
  cok : wi (lineS ls s).1 1073741824 = true
  rok : allIn 1073741824 (lineS ls s).2 = true
  len : (lineS ls s).2.length ≤ 64
theorem tellS_took {ls : List (Int × List (Int × Int))} {s : List (Int × Int) × Int} (hok : lsOk ls) (h : tellS ls s = 0) : Took ls s := by
  unfold tellS at h
  by_cases h1 : stepK ls.length s.1 s.2 = 0
  · obtain ⟨hp, hd⟩ := stepK_ok h1 hok
    by_cases h2 : wi (cTo ls s.1 s.1.length) 4398046511104 = false ∨ allIn 4398046511104 (sumOf (tTo ls s.1 s.1.length)) = false
    · rw [tellK_far h1 h2] at h; cases h
    · have h3 : wi (cTo ls s.1 s.1.length) 4398046511104 = true := by cases e : wi (cTo ls s.1 s.1.length) 4398046511104 <;> simp [e] at h2 ⊢
      have h4 : allIn 4398046511104 (sumOf (tTo ls s.1 s.1.length)) = true := by cases e : allIn 4398046511104 (sumOf (tTo ls s.1 s.1.length)) <;> simp [e] at h2 ⊢
      cases h5 : allDiv s.2 (sumOf (tTo ls s.1 s.1.length))
      · rw [tellK_div h1 h3 h4 h5] at h; cases h
      · rw [tellK_ok h1 h3 h4 h5] at h
        replace h : divK (lineS ls s).1 (lineS ls s).2 = 0 := h
        cases h6 : wi (lineS ls s).1 1073741824
        · rw [divK_far (.inl h6)] at h; cases h
        · cases h7 : allIn 1073741824 (lineS ls s).2
          · rw [divK_far (.inr h7)] at h; cases h
          · rw [divK_in h6 h7] at h
            by_cases h8 : 64 < (lineS ls s).2.length
            · rw [if_pos h8] at h; cases h
            · exact ⟨hp, hd, h3, h4, h5, h6, h7, by omega⟩
  · rw [tellK_step h1] at h; exact absurd h h1
/-- A divided sum is sound. -/
theorem tellS_ok {ls : List (Int × List (Int × Int))} {s : List (Int × Int) × Int} (hok : lsOk ls) (h : tellS ls s = 0) : snd (lineS ls s).1 (lineS ls s).2 = true := by
  have ht := tellS_took hok h
  have hS := sumOf_is (tTo ls s.1 s.1.length)
  refine snd_of_sum (l := (lineS ls s).2) ⟨?_, fun m hm => ?_, fun _ => rfl⟩ ht.cok (fun m hm => ?_) ht.len (fun m hm => ?_)
  · exact List.Pairwise.map _ (fun a b h => h) hS.up
  · obtain ⟨p, hp, rfl⟩ := List.mem_map.1 hm
    have := List.all_eq_true.1 ht.all p hp
    exact tdiv_ne0 (hS.nz p hp) (by simpa using this)
  · exact List.all_eq_true.1 ht.rok m hm
  · obtain ⟨p, hp, rfl⟩ := List.mem_map.1 hm
    obtain ⟨y, hy, hy2⟩ := hS.comes hp
    have := tTo_vars ht.parts _ (Nat.le_refl _) y hy
    show 0 ≤ p.1 ∧ p.1 < 1048576
    omega
theorem lnL_ok {ls : List (Int × List (Int × Int))} {ss : List (List (Int × Int) × Int)} (hok : lsOk ls) : ∀ k, (∀ j, j < k → tellS (lnL ls ss j) (ss.getD j ([], 0)) = 0) → lsOk (lnL ls ss k)
  | 0, _ => hok
  | k + 1, h => by
    have h1 := lnL_ok hok k (fun j hj => h j (by omega))
    intro i hi
    rw [lnL_len] at hi
    by_cases e : i < ls.length + k
    · have := h1 i (by rw [lnL_len]; exact e)
      rw [lnL]
      simp only [List.getD_eq_getElem?_getD] at this ⊢
      rw [List.getElem?_append_left (by rw [lnL_len]; exact e)]
      exact this
    · have e2 : i = (lnL ls ss k).length := by rw [lnL_len]; omega
      subst e2
      rw [lnL]
      simp only [List.getD_eq_getElem?_getD]
      rw [List.getElem?_concat_length, Option.getD_some]
      exact tellS_ok h1 (h k (by omega))
/-- Steps in a row. -/
def SLies (B : Nat) (w : World) (a : Option Addr) (ss : List (List (Int × Int) × Int)) : Prop :=
  ∀ i, i < ss.length → ∃ b off ta tcap, a = some ⟨b, off, none⟩ ∧ b < B ∧ (ss.getD i ([], 0)).1.length ≤ 9223372036854775807 ∧ w.cell? ⟨b, off + i * 2, none⟩ = some (.slice ta (ss.getD i ([], 0)).1.length tcap) ∧ w.cell? ⟨b, off + i * 2 + 1, none⟩ = some (.int .i64 (ss.getD i ([], 0)).2) ∧ Lies B w ta (ss.getD i ([], 0)).1
theorem SLies.below {B : Nat} {w w' : World} {a : Option Addr} {ss : List (List (Int × Int) × Int)} (h : SLies B w a ss) (hb : Below B w w') : SLies B w' a ss := fun i hi => by
  obtain ⟨b, off, ta, tcap, ha, hlt, hm, h1, h2, h3⟩ := h i hi
  exact ⟨b, off, ta, tcap, ha, hlt, hm, (hb.cell (p := ⟨b, _, none⟩) hlt).trans h1, (hb.cell (p := ⟨b, _, none⟩) hlt).trans h2, h3.below hb⟩
/-- An error: a code, or a place with a code. -/
def ErrIs (B : Nat) (x at' : Int) (er : Value) (w : World) : Prop :=
  (at' < 0 → er = codeV x) ∧ (0 ≤ at' → ∃ g, er = .iface 51 (.pointer (some ⟨g, 0, none⟩)) ∧ B ≤ g ∧ g < w.heap.size ∧ w.cell? ⟨g, 0, none⟩ = some (.int .i64 at') ∧ w.cell? ⟨g, 1, none⟩ = some (codeV x))
def LinesEnd (B : Nat) (x at' : Int) (L : List (Int × List (Int × Int))) (w : World) (e : Ending) (w' : World) : Prop :=
  ∃ v er xs, e = .returned (.tuple #[v, er]) ∧ LRow B xs v w' ∧ lforms xs = L ∧ ErrIs B x at' er w' ∧ Below B w w'
end Go.Proofs.YtmjhjacbhflcpaaDoor
