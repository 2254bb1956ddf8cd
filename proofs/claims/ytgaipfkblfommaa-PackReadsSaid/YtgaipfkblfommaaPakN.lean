/- The document's bytes of a witness. -/
import Derived.Test.YtgaipfkblfommaaPakM
set_option linter.unusedVariables false
set_option linter.unusedSimpArgs false
namespace Go.Proofs.Ytgaipfkblfommaa
set_option maxRecDepth 100000
open Go.RowKit

/-- append, and where the row is then. -/
theorem run_cat2 {w : World} {B : Nat} {l m : List UInt8} {v u : Value} {S : Nat → Prop} (hv : BRow B l v w) (hu : Slot byteSh S w u m) (hB : B ≤ w.heap.size) (hsz : l.length + m.length ≤ 140000000000000) :
    ∃ v' w', (∀ ty, (Builtin.append_ #[27, 27] ty #[v, u]).run Try.prog w = .ok v' w') ∧ BRow B (l ++ m) v' w' ∧ Below B w w' ∧ w.grownBy w' v.ownBlock ∧ (v'.ownBlock = v.ownBlock ∨ v'.ownBlock = some w.heap.size) := by
  obtain ⟨v', w', h1, h2, h3⟩ := run_cat hv hu hB hsz
  refine ⟨v', w', h1, h2, h3, ?_⟩
  obtain ⟨i0, hi, hz0, hz1, hz2⟩ := info_parts Try.infoByte
  obtain ⟨a, cap, rfl, hm, hs⟩ := hu
  by_cases h0 : m.length = 0
  · have hy : m = [] := List.length_eq_zero_iff.1 h0
    subst hy
    have key : ∀ ty, (Builtin.append_ #[27, 27] ty #[v, .slice a 0 cap]).run Try.prog w = .ok v w := fun ty => by
      have hf : ∀ ad : Addr, (Builtin.firstCells 1 0 (.slice (some ad) 0 cap)).run Try.prog w = .ok #[] w := fun ad => run_firstCells_some w 1 0 ad 0 cap [] (by simp) (fun j u h => by cases h)
      have hf0 := run_firstCells_none (P := Try.prog) w 1 0 0 cap
      have ht := Try.underlying27
      rcases hv.2 with ⟨rfl, hl0⟩ | ⟨g, cap', cur, rfl, _, _, hnc, _⟩
      · cases a <;> simp [Builtin.append_, run_underlying ht, sizeOf, typeInfo, hi, hz1, Builtin.lenOf, hf, hf0]
      · cases a <;> simp [Builtin.append_, run_underlying ht, sizeOf, typeInfo, hi, hz1, Builtin.lenOf, hf, hf0, hnc, storeCells]
    have := (h1 27).symm.trans (key 27)
    injection this with e1 e2
    subst e1 e2
    exact ⟨⟨rfl, rfl, rfl, Nat.le_refl _, fun _ _ _ => rfl⟩, .inl rfl⟩
  · obtain ⟨b, off, cs, rfl, _⟩ := hs 0 (by omega)
    have hnews : ∀ j u, (Lib.byteCells m)[j]? = some u → w.cell? ((⟨b, off, none⟩ : Addr).add j) = some u := fun j u hj => by
      have hjl : j < m.length := by have := (List.getElem?_eq_some_iff.1 hj).1; simpa [Lib.byteCells] using this
      obtain ⟨b', off', cs, e, _, hc, rfl⟩ := hs j hjl
      injection e with e
      injection e with e1 e2 e3
      subst e1 e2
      have := hc 0 _ rfl
      rw [show (⟨b, off, none⟩ : Addr).add j = ⟨b, off + j, none⟩ by unfold Addr.add; split <;> simp_all]
      simp [Lib.byteCells, hjl] at hj
      subst hj
      simpa [byteSh] using this
    have hrun := fun ty => run_append_own_at (P := Try.prog) w B 27 ty 5 i0 _ 1 1 Try.underlying27 hi hz0 hz1 hz2 rfl (by decide) v l.length (Lib.byteCells l) hv ⟨b, off, none⟩ m.length cap (Lib.byteCells m) (by simp [Lib.byteCells]) hnews (fun u hu => by
      obtain ⟨x, _, rfl⟩ := List.mem_map.1 hu; rfl) (by unfold maxLen; omega) (by omega) hB
    obtain ⟨v2, w2, hr, k2, k3, _, k5⟩ := hrun 27
    have := (h1 27).symm.trans hr
    injection this with e1 e2
    subst e1 e2
    exact ⟨k3, k5⟩
/-- A box that the row isn't in. -/
structure Box2 (h : Nat) (c0 c1 : Value) (o : Value) (W : World) : Prop where
  lt : h < W.heap.size
  ne : o.ownBlock ≠ some h
  c0 : W.cell? ⟨h, 0, none⟩ = some c0
  c1 : W.cell? ⟨h, 1, none⟩ = some c1
theorem Box2.below {h : Nat} {c0 c1 o : Value} {W W' : World} (k : Box2 h c0 c1 o W) (hb : Below W.heap.size W W') : Box2 h c0 c1 o W' := ⟨Nat.lt_of_lt_of_le k.lt hb.size, k.ne, (hb.cell (p := ⟨h, 0, none⟩) k.lt).trans k.c0, (hb.cell (p := ⟨h, 1, none⟩) k.lt).trans k.c1⟩
theorem Box2.cat {h : Nat} {c0 c1 o o' : Value} {W W' : World} (k : Box2 h c0 c1 o W) (hg : W.grownBy W' o.ownBlock) (hv : o'.ownBlock = o.ownBlock ∨ o'.ownBlock = some W.heap.size) : Box2 h c0 c1 o' W' :=
  ⟨Nat.lt_of_lt_of_le k.lt hg.size, by
    rcases hv with e | e
    · rw [e]; exact k.ne
    · rw [e]; intro e2; injection e2 with e2; have := k.lt; omega, (World.cell?_of_block (a := ⟨h, 0, none⟩) (hg.block h k.lt (fun e => k.ne e.symm))).trans k.c0, (World.cell?_of_block (a := ⟨h, 1, none⟩) (hg.block h k.lt (fun e => k.ne e.symm))).trans k.c1⟩
theorem BRow.fresh {B : Nat} {l : List UInt8} {v : Value} {w : World} (h : BRow B l v w) : v.ownBlock ≠ some w.heap.size := fun e => by have := World.ownsRow.lt h _ e; omega
theorem wpList_conv_run {P : Program} {w : World} {ops : Array Oper} {rest : List Oper} {o : Oper} {a0 : Act} {K : Exit → Act → World → Prop} (hgd : o.guard = none) (src dst : TypeId) (x : Operand) (ho : o.op = .convert src dst x)
    (v v' : Value) (w' : World) (hx : a0.eval x = v) (hr : (convert src dst v).run P w = .ok v' w') (hK : wpList P ops K rest (a0.put o.dst v') w') : wpList P ops K (o :: rest) a0 w := by
  refine wpList_plain hgd fun K' hK' => ?_
  unfold Oper.wp
  simp [execOp, ho, hx, hr, Result.andThen]
  exact hK' _ _ hK
/-- []byte(text). -/
theorem conv_text (w : World) (s : ByteArray) (hs : s.size ≤ 140000000000000) : ∃ u w', (convert 9 27 (.string s)).run Try.prog w = .ok u w' ∧ Slot byteSh (fun b => w.heap.size ≤ b ∧ b < w'.heap.size) w' u s.data.toList ∧ Below w.heap.size w w' := by
  refine ⟨_, _, run_bytes_of_string w _ _ 5 s Try.underlying9 Try.underlying27 Try.underlying5, ⟨_, _, by rw [size_list], by rw [size_list]; omega, fun i hi => ⟨w.heap.size, 0, [.int .u8 (s.data.toList[i].toNat : Int)], rfl, ⟨Nat.le_refl _, by simp⟩, fun j u hu => ?_, rfl⟩⟩, ?_⟩
  · have hj : j = 0 := by have := (List.getElem?_eq_some_iff.1 hu).1; simp at this; exact this
    subst hj
    have hi' : i < s.data.size := by simpa using hi
    have h1 := World.cell?_alloc_mark w.drew (bytesRow s (grownCap w s.size 0 5)) 5 ((bytesRow s (grownCap w s.size 0 5)).size, (bytesRow s (grownCap w s.size 0 5)).size + 1) i
    rw [bytesRow_at s _ i hi'] at h1
    simp at hu
    subst hu
    simpa [byteSh] using h1
  · exact (Below.refl _ w).drew.alloc (Nat.le_refl _) _
/-- append(own, byte), and the box. -/
theorem run_snoc2 {w : World} {B : Nat} {l : List UInt8} {v : Value} (c : UInt8) (x : Int) (hx : x = (c.toNat : Int)) (hv : BRow B l v w) (hB : B ≤ w.heap.size) (hsz : l.length + 1 ≤ 140000000000000) :
    ∃ v' w', (∀ ty, (Builtin.append_ #[27, 27] ty #[v, .slice (some ⟨w.heap.size, 0, none⟩) 1 1]).run Try.prog (w.alloc (.cells #[.int .u8 x] 5)) = .ok v' w') ∧ BRow B (l ++ [c]) v' w' ∧ Below B w w' ∧ ∀ h c0 c1, Box2 h c0 c1 v w → Box2 h c0 c1 v' w' := by
  have hA : Below w.heap.size w (w.alloc (.cells #[.int .u8 x] 5)) := (Below.refl _ w).alloc (Nat.le_refl _) _
  obtain ⟨v', w', h1, h2, h3, h4, h5⟩ := run_cat2 (hv.below hA) (byte_new w c x hx) (Nat.le_trans hB hA.size) (by simpa using hsz)
  exact ⟨v', w', h1, h2, (hA.mono hB).trans h3, fun h c0 c1 k => (k.below hA).cat h4 h5⟩
def RWriteEnd (xs : List Rec) (w : World) (e : Ending) (w' : World) : Prop := ∃ v bad, e = .returned (.tuple #[v, .int .i64 bad]) ∧ Below w.heap.size w w' ∧ ((encWit xs).length ≤ 4194304 ∧ bad = 0 ∧ BRow w.heap.size (encWit xs) v w' ∨ 4194304 < (encWit xs).length ∧ bad = 2 ∧ v = .slice none 0 0)
set_option maxHeartbeats 8000000 in
theorem rwrite_any (a : Option Addr) (n cap : Nat) (xs : List Rec) (w : World) (hn : xs.length = n) (hl : Sits recSh (Lo w.heap.size) w a xs) (hsz : (encWit xs).length ≤ 140000000000000) :
    Calls Try.prog 10 #[.agg #[.slice a n cap]] w (RWriteEnd xs w) := by
  have HA : Hid (Below w.heap.size w (w.alloc (.cells #[.slice a n cap] 24))) := (Below.refl _ _).alloc (Nat.le_refl _) _
  have HL := Lib.hid (hl.below HA.out HA.out.size)
  have HSZ := Lib.hid hsz
  have HN := Lib.hid hn
  have hnm : n ≤ 9223372036854775807 := by rw [← hn]; exact hl.1
  have hq : w.heap.size < (w.alloc (.cells #[.slice a n cap] 24)).heap.size := by simp
  have hb0 : (w.alloc (.cells #[.slice a n cap] 24)).cell? ⟨w.heap.size, 0, none⟩ = some (.slice a n cap) := (cell_of_row _ _ _ _ _ _ (heap_alloc_new w _)).trans rfl
  have HX0 : Hid (∀ W, Below (w.alloc (.cells #[.slice a n cap] 24)).heap.size (w.alloc (.cells #[.slice a n cap] 24)) W → W.cell? ⟨w.heap.size, 0, none⟩ = some (.slice a n cap)) := fun W hW => (hW.cell (p := ⟨_, _, none⟩) hq).trans hb0
  have HNU := Lib.hid (rnumber_any (n : Int) (w.alloc (.cells #[.slice a n cap] 24)) ⟨by omega, by omega⟩)
  clear hl hsz hb0 hn
  go_enter Try.func10, Try.ntmps10
  go_wp2_with fail
  generalize w.alloc (.cells #[.slice a n cap] 24) = W0 at *
  refine HNU.out.mono ?_
  rintro e w1 ⟨v1, rfl, ho1, hb1⟩
  have R1 : Hid (BRow W0.heap.size (num xs.length ++ (xs.take 0).flatMap encRec) v1 w1) := by show BRow _ _ _ _; rw [HN.out]; simpa using ho1
  have B1 := Lib.hid hb1
  clear ho1 hb1 HNU
  go_wp2_with fail
  go_loopw [4, 5] (fun o i wr => ∃ k : Nat, i = .int .i64 k ∧ k ≤ n ∧ Hid (BRow W0.heap.size (num xs.length ++ (xs.take k).flatMap encRec) o wr) ∧ Hid (Below W0.heap.size W0 wr)) (fun _ i _ => n - (intOf i).toNat)
  case atStart => exact ⟨0, rfl, Nat.zero_le _, R1, B1⟩
  case round =>
    clear R1 B1
    obtain ⟨k, rfl, hk, hrow, hb⟩ := hrel
    have x0 := HX0.out wr hb.out
    by_cases hlt : k < n
    · have hlti : (k : Int) < (n : Int) := by omega
      have hkx : k < xs.length := by rw [HN.out]; exact hlt
      obtain ⟨b, off, cs, rfl, hbl, hc, v1, rfl, ⟨b1, bcap1, rfl, hsl⟩⟩ := HL.out.2 k hkx
      have hbl : b < W0.heap.size := hbl
      have c0 : wr.cell? ⟨b, off + k * 2, none⟩ = some (.string xs[k].name) := (hb.out.cell (p := ⟨b, _, none⟩) hbl).trans (by simpa [recSh] using hc 0 _ rfl)
      have c1 : wr.cell? ⟨b, off + k * 2 + 1, none⟩ = some (.slice b1 xs[k].reps.length bcap1) := (hb.out.cell (p := ⟨b, _, none⟩) hbl).trans (by simpa [recSh] using hc 1 _ rfl)
      have HS1 := Lib.hid hsl
      have hrm := hsl.1
      have HSN := Lib.hid (pre_snoc encRec xs k hkx)
      have HLE : Hid ((num xs.length ++ (xs.take k).flatMap encRec).length + (encRec xs[k]).length ≤ 140000000000000) := by
        have h1 := Nat.le_trans (pre_le encRec xs (k + 1)) HSZ.out
        rwa [pre_snoc encRec xs k hkx, List.length_append] at h1
      clear hc hsl
      generalize xs[k] = s at *
      generalize num xs.length ++ (xs.take k).flatMap encRec = base at hrow HSN HLE
      have HBA : Hid (Below wr.heap.size wr (wr.alloc (.cells #[.string s.name, .slice b1 s.reps.length bcap1] 37))) := (Below.refl _ _).alloc (Nat.le_refl _) _
      have hnw := heap_alloc_new wr (.cells #[.string s.name, .slice b1 s.reps.length bcap1] 37)
      have IN : Hid (Box2 wr.heap.size (.string s.name) (.slice b1 s.reps.length bcap1) u4 (wr.alloc (.cells #[.string s.name, .slice b1 s.reps.length bcap1] 37))) := ⟨by simp, hrow.out.fresh, (cell_of_row _ _ _ _ _ _ hnw).trans rfl, (cell_of_row _ _ _ _ _ _ hnw).trans rfl⟩
      have R2 := Lib.hid (hrow.out.below HBA.out)
      have B2 := Lib.hid (hb.out.trans (HBA.out.mono hb.out.size))
      have hsm : s.name.size ≤ 140000000000000 := by
        have := HLE.out
        unfold encRec at this
        simp only [List.length_append, size_list] at this
        omega
      have HNP := Lib.hid (rnumber_any (s.name.size : Int) (wr.alloc (.cells #[.string s.name, .slice b1 s.reps.length bcap1] 37)) ⟨by omega, by omega⟩)
      clear hnw hrow hb
      go_wp2_with fail
      refine HNP.out.mono ?_
      rintro e w5 ⟨v5, rfl, ho5, hb5⟩
      have HLB : base.length + (num s.name.size).length + s.name.data.toList.length + (encList encReply s.reps).length ≤ 140000000000000 := by have := HLE.out; unfold encRec at this; simp only [List.length_append] at this; omega
      obtain ⟨v6, w6, hr6, ho6, hb6, hg6, hv6⟩ := run_cat2 (R2.out.below hb5) (BRow.slot ho5 (by omega)) (Nat.le_trans B2.out.size hb5.size) (by omega)
      obtain ⟨u7, w7, hc7, hs7, hb7⟩ := conv_text w6 s.name hsm
      have IN7 := ((IN.out.below hb5).cat hg6 hv6).below hb7
      have B7 := (B2.out.trans ((hb5.mono B2.out.size).trans hb6)).trans (hb7.mono (B2.out.trans ((hb5.mono B2.out.size).trans hb6)).size)
      obtain ⟨v8, w8, hr8, ho8, hb8, hg8, hv8⟩ := run_cat2 (ho6.below hb7) hs7 B7.size (by rw [List.length_append]; omega)
      have IN8 := Lib.hid (IN7.cat hg8 hv8)
      have B8 := Lib.hid (B7.trans hb8)
      have R8 : Hid (BRow W0.heap.size (base ++ num s.name.size ++ s.name.data.toList) v8 w8) := ho8
      have s0 := ((IN.out.below hb5).cat hg6 hv6).c0
      have s1 := IN8.out.c1
      have HNP := Lib.hid (rnumber_any (s.reps.length : Int) w8 ⟨by omega, by omega⟩)
      have HLB2 := Lib.hid HLB
      obtain ⟨a5, cap5, rfl⟩ := ho5.slice
      clear ho5 hb5 ho6 hb6 hg6 hv6 HLB hs7 hb7 IN7 B7 ho8 hb8 hg8 hv8 R2 B2 IN HBA c0 c1 x0
      go_wp2_with (first | (refine wpList_conv_run rfl 9 27 _ rfl _ _ _ rfl hc7 ?_) | (at_builtin; first | refine Lib.wpList_append_run _ rfl _ _ _ _ rfl _ _ rfl rfl _ _ (hr6 _) ?_ | refine Lib.wpList_append_run _ rfl _ _ _ _ rfl _ _ rfl rfl _ _ (hr8 _) ?_))
      clear hr6 hr8 hc7
      go_wp2_with fail
      refine HNP.out.mono ?_
      rintro e y5 ⟨z5, rfl, ho5, hb5⟩
      have HLB : (base ++ num s.name.size ++ s.name.data.toList).length + (num s.reps.length).length ≤ 140000000000000 := by have := HLB2.out; unfold encList at this; simp only [List.length_append] at this ⊢; omega
      obtain ⟨z6, y6, hr6, ho6, hb6, hg6, hz6⟩ := run_cat2 (R8.out.below hb5) (BRow.slot ho5 (by omega)) (Nat.le_trans B8.out.size hb5.size) HLB
      have R6 : Hid (BRow W0.heap.size (base ++ num s.name.size ++ s.name.data.toList ++ num s.reps.length) z6 y6) := ho6
      have B6 := Lib.hid (B8.out.trans ((hb5.mono B8.out.size).trans hb6))
      have I6 := Lib.hid ((IN8.out.below hb5).cat hg6 hz6)
      obtain ⟨d5, dcap5, rfl⟩ := ho5.slice
      clear ho5 hb5 ho6 hb6 hg6 hz6 HLB HNP s1 s0
      have s1 := I6.out.c1
      go_wp2_with (at_builtin; refine Lib.wpList_append_run _ rfl _ _ _ _ rfl _ _ rfl rfl _ _ (hr6 _) ?_)
      clear hr6
      have R6 : Hid (BRow W0.heap.size (base ++ num s.name.size ++ s.name.data.toList ++ (num s.reps.length ++ (s.reps.take 0).flatMap encReply)) z6 y6) := by simpa using R6
      generalize wr.heap.size = h at *
      have HPRE : Hid (base ++ num s.name.size ++ s.name.data.toList ++ encList encReply s.reps = base ++ encRec s ∧ (base ++ num s.name.size ++ s.name.data.toList).length + (encList encReply s.reps).length ≤ 140000000000000) := by
        refine ⟨by unfold encRec; simp only [List.append_assoc], ?_⟩
        have := HLB2.out
        simp only [List.length_append] at this ⊢
        omega
      generalize base ++ num s.name.size ++ s.name.data.toList = pre at *
      clear HLB2
      go_loopw [4, 7] (fun o i W => ∃ j : Nat, i = .int .i64 j ∧ j ≤ s.reps.length ∧ Hid (BRow W0.heap.size (pre ++ (num s.reps.length ++ (s.reps.take j).flatMap encReply)) o W) ∧ Hid (Below W0.heap.size W0 W) ∧ Hid (Box2 h (.string s.name) (.slice b1 s.reps.length bcap1) o W)) (fun _ i _ => s.reps.length - (intOf i).toNat)
      case atStart => exact ⟨0, rfl, Nat.zero_le _, R6, B6, I6⟩
      case round =>
        clear R6 B6 I6
        obtain ⟨j, rfl, hj, hrow, hb, IN⟩ := hrel
        have s1 := IN.out.c1
        by_cases hjlt : j < s.reps.length
        · have hjlti : (j : Int) < (s.reps.length : Int) := by omega
          obtain ⟨b2, off2, cs, rfl, hbl2, hc, v1, v2, rfl, ⟨q1, qcap1, rfl, hsl⟩, ⟨q2, qcap2, rfl, hsl2⟩⟩ := HS1.out.2 j hjlt
          have hbl2 : b2 < W0.heap.size := hbl2
          have HC0 : Hid (∀ W, Below W0.heap.size W0 W → W.cell? ⟨b2, off2 + j * 3, none⟩ = some (.bool s.reps[j].yes)) := fun W hW => (hW.cell (p := ⟨b2, _, none⟩) hbl2).trans (by simpa [replySh] using hc 0 _ rfl)
          have HC1 : Hid (∀ W, Below W0.heap.size W0 W → W.cell? ⟨b2, off2 + j * 3 + 1, none⟩ = some (.slice q1 s.reps[j].lems.length qcap1)) := fun W hW => (hW.cell (p := ⟨b2, _, none⟩) hbl2).trans (by simpa [replySh] using hc 1 _ rfl)
          have HC2 : Hid (∀ W, Below W0.heap.size W0 W → W.cell? ⟨b2, off2 + j * 3 + 2, none⟩ = some (.slice q2 s.reps[j].refute.length qcap2)) := fun W hW => (hW.cell (p := ⟨b2, _, none⟩) hbl2).trans (by simpa [replySh] using hc 2 _ rfl)
          have HSL := Lib.hid hsl
          have HSL2 := Lib.hid hsl2
          have HPS := Lib.hid (pre_snoc encReply s.reps j hjlt)
          have HPL : Hid ((pre ++ (num s.reps.length ++ (s.reps.take j).flatMap encReply)).length + (encReply s.reps[j]).length ≤ 140000000000000) := by
            have h1 := HPRE.out.2
            have h2 := pre_le encReply s.reps (j + 1)
            rw [pre_snoc encReply s.reps j hjlt] at h2
            simp only [List.length_append] at h1 h2
            show _ ≤ _
            simp only [List.length_append]
            omega
          clear hc hsl hsl2
          generalize s.reps[j] = x at *
          have HPS : Hid (pre ++ (num s.reps.length ++ (s.reps.take (j + 1)).flatMap encReply) = pre ++ (num s.reps.length ++ (s.reps.take j).flatMap encReply) ++ encReply x) := by
            show _ = _
            rw [HPS.out]
            simp only [List.append_assoc]
          generalize pre ++ (num s.reps.length ++ (s.reps.take j).flatMap encReply) = inn at hrow HPS HPL
          obtain ⟨yes, lems, refute⟩ := x
          simp only at *
          have c0 := HC0.out wr hb.out
          cases yes with
          | false =>
            have HPS : Hid (pre ++ (num s.reps.length ++ (s.reps.take (j + 1)).flatMap encReply) = inn ++ [0]) := HPS.out
            obtain ⟨v6, w6, hr6, ho6, hb6, hi6⟩ := run_snoc2 0 0 rfl hrow.out hb.out.size (by have := HPL.out; simp [encReply] at this; omega)
            have R6 : Hid (BRow W0.heap.size (pre ++ (num s.reps.length ++ (s.reps.take (j + 1)).flatMap encReply)) v6 w6) := by show BRow _ _ _ _; rw [HPS.out]; exact ho6
            have B6 := Lib.hid (hb.out.trans hb6)
            have I6 := Lib.hid (hi6 _ _ _ IN.out)
            clear ho6 hb6 hi6 hrow hb IN
            go_wp2_with (at_builtin; refine Lib.wpList_append_run _ rfl _ _ _ _ rfl _ _ rfl rfl _ _ (hr6 _) ?_)
            go_roundw
            case rel => exact ⟨j + 1, by go_num, by omega, R6, B6, I6⟩
            case measure => simp [intOf]; omega
          | true =>
            have HE : Hid (encReply ⟨true, lems, refute⟩ = [1] ++ (encList encLem lems ++ encList encClause refute)) := by show _ = _; unfold encReply; rw [if_pos rfl, List.append_assoc]
            have HPL : Hid (inn.length + (1 + (encList encLem lems ++ encList encClause refute).length) ≤ 140000000000000) := by show _ ≤ _; have := HPL.out; rw [HE.out] at this; simp only [List.length_append, List.length_cons, List.length_nil] at this ⊢; omega
            obtain ⟨v6, w6, hr6, ho6, hb6, hi6⟩ := run_snoc2 1 1 rfl hrow.out hb.out.size (by have := HPL.out; omega)
            have R6 := Lib.hid ho6
            have B6 := Lib.hid (hb.out.trans hb6)
            have I6 := Lib.hid (hi6 _ _ _ IN.out)
            have s1 := I6.out.c1
            have c0 := HC0.out w6 B6.out
            have c1 := HC1.out w6 B6.out
            have c2 : w6.cell? ⟨b2, off2 + j * 3 + 1 + 1, none⟩ = _ := HC2.out w6 B6.out
            have HNP := Lib.hid (rcert_any ⟨true, lems, refute⟩ q1 qcap1 q2 qcap2 w6 (HSL.out.below B6.out B6.out.size) (HSL2.out.below B6.out B6.out.size) (by have := HPL.out; simp only at this ⊢; omega))
            simp only at HNP
            generalize encList encLem lems ++ encList encClause refute = ab at HE HPL HNP
            clear ho6 hb6 hi6 hrow hb IN
            go_wp2_with (at_builtin; refine Lib.wpList_append_run _ rfl _ _ _ _ rfl _ _ rfl rfl _ _ (hr6 _) ?_)
            clear hr6
            go_wp2_with fail
            refine HNP.out.mono ?_
            rintro e y5 ⟨z5, rfl, ho5, hb5⟩
            have HLB : (inn ++ [1]).length + (ab).length ≤ 140000000000000 := by have := HPL.out; simp only [List.length_append, List.length_cons, List.length_nil] at this ⊢; omega
            obtain ⟨z6, y6, hr6, ho6, hb6, hg6, hz6⟩ := run_cat2 (R6.out.below hb5) (BRow.slot ho5 (by omega)) (Nat.le_trans B6.out.size hb5.size) HLB
            have R7 : Hid (BRow W0.heap.size (inn ++ [1] ++ ab) z6 y6) := ho6
            have B7 := Lib.hid (B6.out.trans ((hb5.mono B6.out.size).trans hb6))
            have I7 := Lib.hid ((I6.out.below hb5).cat hg6 hz6)
            obtain ⟨d5, dcap5, rfl⟩ := ho5.slice
            clear ho5 hb5 ho6 hb6 hg6 hz6 HLB HNP s1 c0 c1 c2
            go_wp2_with (at_builtin; refine Lib.wpList_append_run _ rfl _ _ _ _ rfl _ _ rfl rfl _ _ (hr6 _) ?_)
            clear hr6
            have R7 : Hid (BRow W0.heap.size (pre ++ (num s.reps.length ++ (s.reps.take (j + 1)).flatMap encReply)) z6 y6) := by
              show BRow _ _ _ _
              rw [HPS.out, HE.out, ← List.append_assoc]
              exact R7.out
            go_roundw
            case rel => exact ⟨j + 1, by go_num, by omega, R7, B7, I7⟩
            case measure => simp [intOf]; omega
        · have hjlti : ¬ (j : Int) < (s.reps.length : Int) := by omega
          obtain rfl : j = s.reps.length := by omega
          have R7 : Hid (BRow W0.heap.size (num xs.length ++ (xs.take (k + 1)).flatMap encRec) u4 wr) := by have := hrow.out; rw [pre_all, HPRE.out.1] at this; show BRow _ _ _ _; rw [HSN.out]; exact this
          clear hrow IN
          go_wp2_with fail
          go_roundw
          case rel => exact ⟨k + 1, by go_num, by omega, R7, hb⟩
          case measure => simp [intOf]; omega
    · have hlti : ¬ (k : Int) < (n : Int) := by omega
      obtain rfl : k = n := by omega
      have hrow2 : BRow W0.heap.size (encWit xs) u4 wr := by have := hrow.out; rw [← HN.out, pre_all] at this; exact this
      have HB := Lib.hid (HA.out.trans (hb.out.mono HA.out.size))
      obtain ⟨oa, ocap, rfl⟩ := hrow2.slice
      by_cases hfar : 4194304 < (encWit xs).length
      · have hfi : (4194304 : Int) < ((encWit xs).length : Int) := by omega
        have HE : Hid (RWriteEnd xs w (.returned (.tuple #[.slice none 0 0, .int .i64 2])) wr) := ⟨_, _, rfl, HB.out, .inr ⟨hfar, rfl, rfl⟩⟩
        clear hrow hb hrow2 hfar
        go_wp2_with fail
        go_ret2
        exact HE.out
      · have hfi : ¬ (4194304 : Int) < ((encWit xs).length : Int) := by omega
        have HE : Hid (RWriteEnd xs w (.returned (.tuple #[.slice oa (encWit xs).length ocap, .int .i64 0])) wr) := ⟨_, _, rfl, HB.out, .inl ⟨by omega, rfl, hrow2.lower HA.out.size⟩⟩
        clear hrow hb hrow2 hfar
        go_wp2_with fail
        go_ret2
        exact HE.out
end Go.Proofs.Ytgaipfkblfommaa
