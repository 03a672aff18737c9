/-
Steps of a region that draws its order, whose operations are guarded: the guard decided by computation. No program.
What is asked of package label's functions, in plain words; awake of layer 13.
The program's Labels and ValidName of package host.
Contracts of digit, isHexadecimal, withoutLastDot of package ipv4.
Contract of allDigits of package ipv4.
Contract of Numeric of package ipv4.
Canonical labels, test by test. No program.
-/
import Derived.Test.YthoolifdmemceaaGreatDoorB00
import Derived.StillTailTactics
import Derived.Test.YthoolifdmemceaaGreatDoorB07
import Derived.Test.YthoolifdmemceaaGreatDoorB10
import Derived.Test.YthoolifdmemceaaGreatDoorB08
import Derived.Test.YthoolifdmemceaaGreatDoorB02
import Derived.Test.YthoolifdmemceaaGreatDoorShelf
import Derived.BigQuiet
namespace Go.Proofs.YthoolifdmemceaaGreatDoor
section
open Go.RowKit

theorem still_want {P : Program} {ops : Array Oper} {w : World} {Q : Act → Prop} {a : Act} {o : Oper} {rest : List Oper} (hw : Region.wanted o (yielded ops a.tmps) = true)
    (h : ∀ K : Act → Prop, (∀ a, wpStill P ops w Q rest a → K a) → o.still P a w K) : wpStill P ops w Q (o :: rest) a := by
  unfold wpStill
  rw [if_pos hw]
  exact h _ (fun _ h => h)
theorem still_skip {P : Program} {ops : Array Oper} {w : World} {Q : Act → Prop} {a : Act} {o : Oper} {rest : List Oper} (hw : Region.wanted o (yielded ops a.tmps) = false)
    (h : ∀ K : Act → Prop, (∀ a, wpStill P ops w Q rest a → K a) → K (a.put o.dst undef)) : wpStill P ops w Q (o :: rest) a := by
  unfold wpStill
  rw [if_neg (by rw [hw]; decide)]
  exact h _ (fun _ h => h)
/-- The operation's own run, as it is written. -/
theorem still_run {P : Program} {w : World} {o : Oper} {a : Act} {K : Act → Prop} {v : Value} (hr : (execOp a.eval o).run P w = .ok (.value v) w) (h : K (a.put o.dst v)) : o.still P a w K := by
  unfold Oper.still
  rw [hr, Oper.stillUpon_value]
  exact h

/-- One operation of a region in any order that gives a value in every world: taken at once, the frame laid anew. -/
theorem any_take {P : Program} {md : Region.Mode} {ops : Array Oper} {Q : Exit → Act → World → Prop} {i : Nat} {oi : Oper} {v : Value} {fuel : Nat} {listed : Array Bool} {a : Act} {w : World} (hi : ops[i]? = some oi)
    (hs : Region.noSelect ops = true) (hf : Region.free md ops listed i = true) (hr : (Region.ready md ops listed).contains i = true)
    (hQ : ∀ c a w, Q (.panic c) (a.put oi.dst v) w → Q (.panic c) a w) (hw : Region.wanted oi (yielded ops a.tmps) = true) (hrun : ∀ w, (execOp a.eval oi).run P w = .ok (.value v) w)
    (h : ∀ K : Act → World → Prop, (∀ a w, wpAny P md ops Q fuel (listed.setIfInBounds i true) a w → K a w) → K (a.put oi.dst v) w) : wpAny P md ops Q (fuel + 1) listed a w :=
  wpAny_take hi hs hf hr hQ (Or.inl ⟨hw, hrun⟩) (h _ (fun _ _ h => h))
theorem any_skip {P : Program} {md : Region.Mode} {ops : Array Oper} {Q : Exit → Act → World → Prop} {i : Nat} {oi : Oper} {fuel : Nat} {listed : Array Bool} {a : Act} {w : World} (hi : ops[i]? = some oi)
    (hs : Region.noSelect ops = true) (hf : Region.free md ops listed i = true) (hr : (Region.ready md ops listed).contains i = true)
    (hQ : ∀ c a w, Q (.panic c) (a.put oi.dst undef) w → Q (.panic c) a w) (hw : Region.wanted oi (yielded ops a.tmps) = false)
    (h : ∀ K : Act → World → Prop, (∀ a w, wpAny P md ops Q fuel (listed.setIfInBounds i true) a w → K a w) → K (a.put oi.dst undef) w) : wpAny P md ops Q (fuel + 1) listed a w :=
  wpAny_take hi hs hf hr hQ (Or.inr ⟨hw, rfl⟩) (h _ (fun _ _ h => h))
end

section
open Go.RowKit

def LbVal (F : FuncId) : Prop := ∀ (s : ByteArray) (w : World), s.size ≤ 1000000000 → Calls Tryz.prog F #[.string s] w fun e w' => e = .returned (.bool (labL (ls s))) ∧ Below w.heap.size w w'
def LbTA (F : FuncId) : Prop := ∀ (s : ByteArray) (w : World), s.size ≤ 1000000000 → U8 w → Calls Tryz.prog F #[.string s] w fun e w' => e = .returned (.tuple #[.string (bs (toA (ls s)).2), .int .i64 ((toA (ls s)).1 : Nat)]) ∧ Below w.heap.size w w'
def LbTU (F : FuncId) : Prop := ∀ (s : ByteArray) (w : World), s.size ≤ 1000000000 → Calls Tryz.prog F #[.string s] w fun e w' => e = .returned (.tuple #[.string (bs (toU (ls s)).2), .int .i64 ((toU (ls s)).1 : Nat)]) ∧ Below w.heap.size w w'

theorem ex_encB : encB [98, 252, 99, 104, 101, 114] = [98, 99, 104, 101, 114, 45, 107, 118, 97] := by
  unfold encB
  rw [ex_ds]
  show [98, 99, 104, 101, 114] ++ ([45] ++ digsOf [745] 72 5 true) = _
  rw [digsOf, ex_gen, digsOf]
  rfl
def exB : List UInt8 := [66, 195, 188, 99, 104, 101, 114]
def exX : List UInt8 := [120, 110, 45, 45, 98, 99, 104, 101, 114, 45, 107, 118, 97]
theorem ex_lab : labL exX = true := by
  have hd : decL [98, 99, 104, 101, 114, 45, 107, 118, 97] = .ok [98, 252, 99, 104, 101, 114] := by kernel_rfl
  have hp : propL [98, 99, 104, 101, 114, 45, 107, 118, 97] = true := by
    unfold propL
    rw [hd]
    simp only []
    rw [ex_encB]
    decide
  unfold labL
  rw [show exX.drop 4 = [98, 99, 104, 101, 114, 45, 107, 118, 97] from rfl, hp, Bool.or_true, Bool.and_true]
  decide +kernel
theorem ex_toA : toA exB = (0, exX) := by
  have h1 : ptsL exB = some [66, 252, 99, 104, 101, 114] := by kernel_rfl
  have h2 : toAOut exB [66, 252, 99, 104, 101, 114] = exX := by
    unfold toAOut
    rw [if_pos (by decide), show [66, 252, 99, 104, 101, 114].map lowP = [98, 252, 99, 104, 101, 114] from by decide, ex_encB]
    rfl
  unfold toA
  rw [h1]
  simp only [h2]
  rw [if_neg (by decide), if_pos ex_lab]
theorem ex_toU : toU exX = (0, [98, 195, 188, 99, 104, 101, 114]) := by
  have hd : decL [98, 99, 104, 101, 114, 45, 107, 118, 97] = .ok [98, 252, 99, 104, 101, 114] := by kernel_rfl
  unfold toU
  rw [if_pos ex_lab]
  unfold toUOut toUOut.puV'
  rw [if_pos (by decide), show exX.drop 4 = [98, 99, 104, 101, 114, 45, 107, 118, 97] from rfl, hd]
  decide +kernel
theorem ex_no : toA [45, 97] = (14, []) := by
  have h1 : ptsL [45, 97] = some [45, 97] := by kernel_rfl
  have h2 : toAOut [45, 97] [45, 97] = [45, 97] := by decide +kernel
  unfold toA
  rw [h1]
  simp only [h2]
  rw [if_neg (by decide), if_neg (by decide +kernel)]
theorem ex_val : labL [97, 95, 49] = true := by decide +kernel
end

section
open Go.RowKit Go.Shelf
attribute [local go_sem] Oper.semAt_some

def HoNum (F : FuncId) : Prop := ∀ (s : ByteArray) (w : World), s.size ≤ 1000000000 → Calls Tryz.prog F #[.string s] w fun e w' => e = .returned (.bool (numericL (ls s))) ∧ Below w.heap.size w w'
def HoLab (F : FuncId) : Prop := ∀ (s : ByteArray) (w : World), s.size ≤ 1000000000 → Calls Tryz.prog F #[.string s] w fun e w' => e = .returned (.int .i64 (labelsL (ls s) : Nat)) ∧ Below w.heap.size w w'
def HoVn (F : FuncId) : Prop := ∀ (s : ByteArray) (w : World), s.size ≤ 1000000000 → Calls Tryz.prog F #[.string s] w fun e w' => e = .returned (.bool (vnL (ls s))) ∧ Below w.heap.size w w'
def HoCov (F : FuncId) : Prop := ∀ (s t : ByteArray) (w : World), s.size ≤ 1000000000 → t.size ≤ 1000000000 → Calls Tryz.prog F #[.string s, .string t] w fun e w' => e = .returned (.bool (coversL (ls s) (ls t))) ∧ Below w.heap.size w w'
theorem lab_nil : labL [] = false := rfl
theorem labels_long {l : List UInt8} (h : 253 < l.length) : labelsL l = 0 := by
  unfold labelsL
  rw [if_neg]
  intro hv
  have := ((vn_iff l).1 hv).len
  omega
theorem labels_num {l : List UInt8} (h : numericL l = true) : labelsL l = 0 := by
  unfold labelsL
  rw [if_neg]
  intro hv
  have := ((vn_iff l).1 hv).num
  rw [h] at this
  cases this
theorem labels_bad {l x : List UInt8} (h : x ∈ splitL 46 l) (hx : labL x = false) : labelsL l = 0 := by
  unfold labelsL
  rw [if_neg]
  intro hv
  have := ((vn_iff l).1 hv).lab x h
  rw [hx] at this
  cases this
theorem labels_all {l : List UInt8} (h1 : l.length ≤ 253) (h2 : numericL l = false) (h3 : ∀ x ∈ splitL 46 l, labL x = true) : labelsL l = (splitL 46 l).length := by
  unfold labelsL
  rw [if_pos]
  refine (vn_iff l).2 ⟨?_, h1, h2, h3⟩
  rintro rfl
  have := h3 [] (by decide)
  cases this
theorem labels_pos (l : List UInt8) : decide ((0 : Int) < (labelsL l : Nat)) = vnL l := by
  unfold labelsL
  cases h : vnL l with
  | true =>
    rw [if_pos rfl]
    have := splitL_pos 46 l
    exact decide_eq_true (by omega)
  | false =>
    rw [if_neg (by simp)]
    rfl
set_option maxRecDepth 100000 in
set_option maxHeartbeats 4000000 in
theorem lab_any (hN : HoNum 35) (hV : LbVal 37) : HoLab 28 := by
  intro s w hs
  have cN := fun W => hN s W hs
  by_cases h1 : 253 < s.size
  · have e0 : labelsL (ls s) = 0 := labels_long (by rw [ls_length]; exact h1)
    rw [e0]
    have hd : decide ((253 : Int) < (s.size : Int)) = true := decide_eq_true (by omega)
    clear cN e0
    go_enter Tryz.func28, Tryz.ntmps28
    go_wp2
    have bx := (Boxed.new w 3 (.int .i64 0)).cell
    refine bodyPost_ret (v := .int .i64 0) ?_ rfl ⟨rfl, (Below.refl _ w).alloc (Nat.le_refl _) _⟩
    simp [results, Tryz.f28, go_sem, bx]
  · have hd : decide ((253 : Int) < (s.size : Int)) = false := decide_eq_false (by omega)
    cases hq : numericL (ls s) with
    | true =>
      rw [hq] at cN
      rw [labels_num hq]
      clear hq
      go_enter Tryz.func28, Tryz.ntmps28
      go_wp2_with fail
      refine (cN _).mono ?_
      rintro e w1 ⟨rfl, hb1⟩
      have bR : Boxed w1 w.heap.size 3 (.int .i64 0) := (hb1.block _ (by simp)).trans (Boxed.new w 3 (.int .i64 0))
      have hb0 : Below w.heap.size w w1 := ((Below.refl _ w).alloc (Nat.le_refl _) _).trans (hb1.mono (by rw [World.size_alloc]; omega))
      have k1 := bR.cell
      have f1 := bR.frozen
      go_wp2
      have bx := (bR.set (.int .i64 0)).cell
      refine bodyPost_ret (v := .int .i64 0) ?_ rfl ⟨rfl, hb0.setCell (p := ⟨w.heap.size, 0, none⟩) (Nat.le_refl _) _⟩
      simp [results, Tryz.f28, go_sem, bx]
    | false =>
      rw [hq] at cN
      refine (callsIn_wide (n := 3)).1 ?_
      refine callsIn_of_wp_marks Tryz.func28 rfl trivial ?_ rfl
      simp only [Tryz.ntmps28, List.size_toArray, List.length_cons, List.length_nil, Nat.reduceAdd, Nat.reduceSub, Array.replicate_succ, Array.replicate_zero, List.push_toArray, List.append_toArray, List.nil_append, List.cons_append]
      gi_wp2_with fail
      refine ⟨trivial, ?_⟩
      refine (callsIn_wide.2 (cN _)).mono ?_
      rintro e w1 ⟨rfl, hb1⟩
      have bR := (Boxed.new w 3 (.int .i64 0))
      gi_wp2_with fail
      refine ⟨trivial, ?_⟩
      refine (callsIn_wide.2 (seq_any s _)).mono ?_
      rintro e w2 ⟨rfl, rfl⟩
      gi_wp2_with fail
      obtain ⟨B0, hB0⟩ : ∃ b, b = w.heap.size := ⟨_, rfl⟩
      obtain ⟨Bc, hBc⟩ : ∃ b, b = w1.heap.size := ⟨_, rfl⟩
      have hlt : B0 < Bc := by have := hb1.size; rw [World.size_alloc] at this; omega
      have hb0 : Below w.heap.size w w1 := ((Below.refl _ w).alloc (Nat.le_refl _) _).trans (hb1.mono (by rw [World.size_alloc]; omega))
      have r1 : Boxed w1 B0 3 (.int .i64 0) := (hb1.block B0 (by rw [World.size_alloc]; omega)).trans (by rw [hB0]; exact bR)
      have q1 := Boxed.new w1 3 (.int .i64 0)
      have q2 := Boxed.new (w1.alloc (.cells #[.int .i64 0] 3)) 9 (.string s)
      have q3 := Boxed.new ((w1.alloc (.cells #[.int .i64 0] 3)).alloc (.cells #[.string s] 9)) 9 (.string ⟨#[46]⟩)
      have q4 := Boxed.new (((w1.alloc (.cells #[.int .i64 0] 3)).alloc (.cells #[.string s] 9)).alloc (.cells #[.string ⟨#[46]⟩] 9)) 3 (.int .i64 0)
      simp only [World.size_alloc] at q1 q2 q3 q4
      obtain ⟨W3, hW3⟩ : ∃ W, W = (((w1.alloc (.cells #[.int .i64 0] 3)).alloc (.cells #[.string s] 9)).alloc (.cells #[.string ⟨#[46]⟩] 9)).alloc (.cells #[.int .i64 0] 3) := ⟨_, rfl⟩
      rw [← hW3]
      have hb3 : Below w.heap.size w W3 := by
        rw [hW3]
        exact (((hb0.alloc hb0.size _).alloc (by simp; omega) _).alloc (by simp; omega) _).alloc (by simp; omega) _
      have hz3 : W3.heap.size = Bc + 4 := by rw [hW3, hBc]; simp
      have r3 : Boxed W3 B0 3 (.int .i64 0) := by rw [hW3]; exact (((r1.alloc _).alloc _).alloc _).alloc _
      have c3 : Boxed W3 Bc 3 (.int .i64 0) := by rw [hW3, hBc]; exact ((q1.alloc _).alloc _).alloc _
      have s3 : Boxed W3 (Bc + 1) 9 (.string s) := by rw [hW3, hBc]; exact (q2.alloc _).alloc _
      have d3 : Boxed W3 (Bc + 1 + 1) 9 (.string ⟨#[46]⟩) := by rw [hW3, hBc]; exact q3.alloc _
      have v3 : Boxed W3 (Bc + 1 + 2) 3 (.int .i64 0) := by rw [hW3, hBc]; exact q4
      rw [← hB0, ← hBc]
      clear hW3 q1 q2 q3 q4 r1 bR hb1 hBc hb0
      have HZ := Lib.hid hz3
      have HB := Lib.hid hB0
      have H1 := Lib.hid h1
      have HQ := Lib.hid hq
      refine wpIn_rangeFunc_T (α := St9) rfl (by decide) (gf := 54) (lb := #[.pointer (some ⟨Bc + 1 + 1, 0, none⟩), .pointer (some ⟨Bc + 1, 0, none⟩), .pointer (some ⟨Bc + 1 + 2, 0, none⟩)]) rfl trivial (enters_of Tryz.func54 (by kernel_rfl) rfl)
        (enc := fun x : St9 => .string x.1) (Al := fun r => r = Bc + 1) (Kr := fun r => r = Bc + 1 ∨ r = Bc + 1 + 1 ∨ r = Bc + 1 + 2) (S := fun xs => xs.map (fun x => ls x.1) = splitL 46 (ls s)) (Sp := fun pre => pre.map (fun x => ls x.1) <+: splitL 46 (ls s)) (N := (splitL 46 (ls s)).length)
        (fun r h => by omega) (fun r h => by omega) (fun W0 hg => split_it _ (Bc + 1) s hs W0 (s3.kept hg (by simp)) (d3.kept hg (by simp)) (v3.kept hg (by simp))) rfl
        (fun pre W => Boxed W B0 3 (.int .i64 0) ∧ Boxed W Bc 3 (.int .i64 (pre.length : Nat)) ∧ (∀ x ∈ pre, labL (ls x.1) = true) ∧ Below w.heap.size w W)
        (fun c pre W => c = .ret ∧ (∃ x ∈ pre, labL (ls x.1) = false) ∧ Boxed W B0 3 (.int .i64 0) ∧ Below w.heap.size w W)
        ((ownT_box B0 3 (fun _ => .int .i64 0) (by show ¬ (_ = _); omega)).and ((ownT_box Bc 3 (fun pre : List St9 => .int .i64 (pre.length : Nat)) (by show ¬ (_ = _); omega)).and ((ownT_pure _).and (ownT_below (Nat.le_refl _) (by omega) (fun r h => by omega)))))
        (fun c => (ownT_pure _).and ((ownT_pure _).and ((ownT_box B0 3 (fun _ => .int .i64 0) (by show ¬ (_ = _); omega)).and (ownT_below (Nat.le_refl _) (by omega) (fun r h => by omega)))))
        ⟨r3, c3, (fun x hx => by cases hx), hb3⟩
        (fun x => { tmps := #[.string s, undef, .pointer (some ⟨B0, 0, none⟩), .pointer (some ⟨Bc, 0, none⟩), .string x.1, .string s, .int .i64 s.size, .bool false, .bool false, .string s, .bool false, .bool false, .string s,
          .func (.func 54) #[] #[.pointer (some ⟨Bc + 1 + 1, 0, none⟩), .pointer (some ⟨Bc + 1, 0, none⟩), .pointer (some ⟨Bc + 1 + 2, 0, none⟩)], .string x.1, undef, undef, undef, undef, undef, undef], defers := [] }) ?assign ?body ?done ?stop
      case assign =>
        intro l x W K hK
        clear hz3 hB0 cN hd h1 hq
        gi_wp2
        exact hK
      case body =>
        rintro l pre x W hl1 hl2 ⟨b1, b2, hp, hB⟩ hN9
        have HW : Hid (wrap64 ((pre.length : Int) + 1) = (((pre ++ [x]).length : Nat) : Int)) := by
          show _ = _
          have := splitL_length 46 (ls s)
          rw [ls_length] at this
          rw [List.length_append, List.length_singleton]
          unfold wrap64
          omega
        clear hN9
        have c := hV x.1 W x.2
        clear hz3 hB0 cN hd h1 hq hb3 r3 c3 s3 d3 v3
        obtain ⟨q, hq2⟩ : ∃ q, q = labL (ls x.1) := ⟨_, rfl⟩
        rw [← hq2] at c
        gi_wp2_with fail
        refine ⟨trivial, ?_⟩
        refine (CallsIn.inRound l (callsIn_wide.2 c)).mono ?_
        rintro e w4 ⟨rfl, hb4⟩
        replace b1 : Boxed w4 B0 3 (.int .i64 0) := (hb4.block _ b1.lt).trans b1
        replace b2 : Boxed w4 Bc 3 (.int .i64 (pre.length : Nat)) := (hb4.block _ b2.lt).trans b2
        have hB4 := hB.trans (hb4.mono hB.size)
        have hk4 : KeepsFrom W3.heap.size W w4 := ⟨hb4.size, fun k o _ hk _ => (hb4.block k (Array.getElem?_eq_some_iff.1 hk).1).trans hk⟩
        have hs4 : SameAt (fun r => r = Bc + 1 ∨ r = Bc + 1 + 1 ∨ r = Bc + 1 + 2) W w4 := fun r h => hb4.block r (by have := HZ.out; omega)
        have k1 := b1.cell
        have k2 := b2.cell
        have f1 := b1.frozen
        have f2 := b2.frozen
        have HX := Lib.hid hq2
        clear hq2
        cases q with
        | false =>
          gi_wp2
          exact ⟨hk4.trans ((KeepsOthers.setCell _ _ _).from _), rfl, ⟨x, by simp, HX.out.symm⟩, b1.set _, hB4.setCell (p := ⟨B0, 0, none⟩) (by show w.heap.size ≤ B0; have := HB.out; omega) _⟩
        | true =>
          gi_wp2
          refine ⟨hk4.trans ((KeepsOthers.setCell _ _ _).from _), fun r h => (Below.heap_setCell _ _ _ r (by show r ≠ Bc; omega)).trans (hs4 r h), boxed_other b1 (by omega), ?_, ?_, hB4.setCell (p := ⟨Bc, 0, none⟩) (by show w.heap.size ≤ Bc; have := HB.out; omega) _⟩
          · rw [HW.out]
            exact b2.set _
          · intro y hy
            rcases List.mem_append.1 hy with hy | hy
            · exact hp y hy
            · simp at hy
              rw [hy]
              exact HX.out.symm
      case done =>
        rintro D xs W hD hS ⟨b1, b2, hp, hB⟩ hK
        have k1 := b1.cell
        have k2 := b2.cell
        have f1 := b1.frozen
        clear hz3 hB0 cN hd h1 hq hb3 r3 c3 s3 d3 v3
        gi_wp2
        have b3 := b1.set (.int .i64 (xs.length : Nat))
        have hK2 := (KeepsOthers.setCell W ⟨B0, 0, none⟩ (.int .i64 (xs.length : Nat))).same D _ hK rfl
        refine ⟨by simp, .inl ⟨_, _, rfl, run_takeDeferred hK2, ?_⟩⟩
        have hc5 := cell_kept b3.cell (grownBy_putObj' _ D (.deferred none)) (fun r e => by cases e; exact ⟨_, hK2, rfl⟩)
        have hlen : labelsL (ls s) = xs.length := by
          rw [labels_all (by rw [ls_length]; have := H1.out; omega) HQ.out, ← hS, List.length_map]
          intro y hy
          rw [← hS] at hy
          obtain ⟨z, hz, rfl⟩ := List.mem_map.1 hy
          exact hp z hz
        refine ⟨.int .i64 (xs.length : Nat), ?_, by rw [hlen], (hB.setCell (p := ⟨B0, 0, none⟩) (by show w.heap.size ≤ B0; have := HB.out; omega) _).trans (belowK_b (w := w) (Nat.le_refl _) _ D _ _ (by have := HZ.out; have := HB.out; omega) hK2 rfl rfl)⟩
        simp [results, Tryz.f28, go_sem, hc5]
      case stop =>
        rintro D c pre W hD hpre ⟨rfl, ⟨x, hx, hbad⟩, b1, hB⟩ hK
        clear hz3 hB0 cN hd h1 hq hb3 r3 c3 s3 d3 v3
        gi_wp2
        refine ⟨by simp, .inl ⟨_, _, rfl, run_takeDeferred hK, ?_⟩⟩
        have hc5 := cell_kept b1.cell (grownBy_putObj' _ D (.deferred none)) (fun r e => by cases e; exact ⟨_, hK, rfl⟩)
        have hlen : labelsL (ls s) = 0 := labels_bad (hpre.subset (List.mem_map.2 ⟨x, hx, rfl⟩)) hbad
        refine ⟨.int .i64 0, ?_, by rw [hlen]; rfl, hB.trans (belowK_b (w := w) (Nat.le_refl _) W D _ _ (by have := HZ.out; have := HB.out; omega) hK rfl rfl)⟩
        simp [results, Tryz.f28, go_sem, hc5]
theorem vn_any (hL : HoLab 28) : HoVn 19 := by
  intro s w hs
  have c := hL s w hs
  have e := labels_pos (ls s)
  obtain ⟨q, hq⟩ : ∃ q, q = vnL (ls s) := ⟨_, rfl⟩
  obtain ⟨n, hn⟩ : ∃ n, n = labelsL (ls s) := ⟨_, rfl⟩
  rw [← hq] at e ⊢
  rw [← hn] at c e
  clear hq hn
  go_enter Tryz.func19, Tryz.ntmps19
  go_wp2_with fail
  refine c.mono ?_
  rintro r w1 ⟨rfl, hb⟩
  go_wp2
  go_ret
  exact ⟨ret_bool (by rw [← e]; exact decide_eq_decide.2 (by omega)), hb⟩
end

section
open Go.RowKit

theorem undot_le (l : List UInt8) : (undot l).length ≤ l.length := by
  unfold undot
  split
  · simp
  · exact Nat.le_refl _
theorem ls_some (s : ByteArray) (h : 0 < s.size) : ls s ≠ [] := by
  intro e
  have := ls_length s
  rw [e] at this
  simp at this
  omega

theorem digit_any (c : UInt8) (w : World) :
    Calls Tryz.prog 53 #[.int .u8 (c.toNat : Int)] w fun e w' => e = .returned (.int .u64 (pd c : Nat)) ∧ w = w' := by
  have hlt := c.toNat_lt
  by_cases h1 : 48 ≤ c.toNat ∧ c.toNat ≤ 57
  · have HE : Hid (((pd c : Nat) : Int) = (c.toNat : Int) - 48) := by show _ = _; unfold pd digV; rw [if_pos h1]; omega
    have d1 : decide ((48 : Int) ≤ (c.toNat : Int)) = true := decide_eq_true (by omega)
    have d2 : decide ((c.toNat : Int) ≤ 57) = true := decide_eq_true (by omega)
    go_enter Tryz.func53, Tryz.ntmps53
    go_wp2
    go_ret
    exact ⟨ret_int HE.out.symm, rfl⟩
  · by_cases h2 : 97 ≤ c.toNat ∧ c.toNat ≤ 102
    · have HE : Hid (((pd c : Nat) : Int) = 10 + ((c.toNat : Int) - 97)) := by show _ = _; unfold pd digV; rw [if_neg h1, if_pos h2]; omega
      have d2 : decide ((c.toNat : Int) ≤ 57) = false := decide_eq_false (by omega)
      have d3 : decide ((97 : Int) ≤ (c.toNat : Int)) = true := decide_eq_true (by omega)
      have d4 : decide ((c.toNat : Int) ≤ 102) = true := decide_eq_true (by omega)
      have d1 : decide ((48 : Int) ≤ (c.toNat : Int)) = true := decide_eq_true (by omega)
      go_enter Tryz.func53, Tryz.ntmps53
      go_wp2
      go_ret
      exact ⟨ret_int HE.out.symm, rfl⟩
    · by_cases h3 : 65 ≤ c.toNat ∧ c.toNat ≤ 70
      · have HE : Hid (((pd c : Nat) : Int) = 10 + ((c.toNat : Int) - 65)) := by show _ = _; unfold pd digV; rw [if_neg h1, if_neg h2, if_pos h3]; omega
        have d1 : decide ((48 : Int) ≤ (c.toNat : Int)) = true := decide_eq_true (by omega)
        have d2 : decide ((c.toNat : Int) ≤ 57) = false := decide_eq_false (by omega)
        have d3 : decide ((97 : Int) ≤ (c.toNat : Int)) = false := decide_eq_false (by omega)
        have d5 : decide ((65 : Int) ≤ (c.toNat : Int)) = true := decide_eq_true (by omega)
        have d6 : decide ((c.toNat : Int) ≤ 70) = true := decide_eq_true (by omega)
        go_enter Tryz.func53, Tryz.ntmps53
        go_wp2
        go_ret
        exact ⟨ret_int HE.out.symm, rfl⟩
      · have HE : Hid (((pd c : Nat) : Int) = 16) := by show _ = _; unfold pd digV; rw [if_neg h1, if_neg h2, if_neg h3]; rfl
        have c1 : (decide ((48 : Int) ≤ (c.toNat : Int)) && decide ((c.toNat : Int) ≤ 57)) = false := by rw [Bool.and_eq_false_iff, decide_eq_false_iff_not, decide_eq_false_iff_not]; omega
        have c2 : (decide ((97 : Int) ≤ (c.toNat : Int)) && decide ((c.toNat : Int) ≤ 102)) = false := by rw [Bool.and_eq_false_iff, decide_eq_false_iff_not, decide_eq_false_iff_not]; omega
        have c3 : (decide ((65 : Int) ≤ (c.toNat : Int)) && decide ((c.toNat : Int) ≤ 70)) = false := by rw [Bool.and_eq_false_iff, decide_eq_false_iff_not, decide_eq_false_iff_not]; omega
        go_enter Tryz.func53, Tryz.ntmps53
        go_wp2
        all_goals (go_ret; exact ⟨ret_int HE.out.symm, rfl⟩)
theorem isHex_any (s : ByteArray) (w : World) :
    Calls Tryz.prog 44 #[.string s] w fun e w' => e = .returned (.bool (hexP (ls s))) ∧ w = w' := by
  have c1 := fun W => Any.strings_HasPrefix Tryz.lays99 s ⟨#[48, 120]⟩ W
  have c2 := fun W => Any.strings_HasPrefix Tryz.lays99 s ⟨#[48, 88]⟩ W
  have HE : Hid (hexP (ls s) = (Lib.hasPrefix s.data.toList [48, 120] || Lib.hasPrefix s.data.toList [48, 88])) := Lib.hid rfl
  rw [show (⟨#[48, 120]⟩ : ByteArray).data.toList = [48, 120] from rfl] at c1
  rw [show (⟨#[48, 88]⟩ : ByteArray).data.toList = [48, 88] from rfl] at c2
  obtain ⟨x, hx⟩ : ∃ x, x = Lib.hasPrefix s.data.toList [48, 120] := ⟨_, rfl⟩
  obtain ⟨y, hy⟩ : ∃ y, y = Lib.hasPrefix s.data.toList [48, 88] := ⟨_, rfl⟩
  rw [← hx] at c1 HE
  rw [← hy] at c2 HE
  clear hx hy
  cases x with
  | true =>
    go_enter Tryz.func44, Tryz.ntmps44
    go_wp2_with fail
    refine (c1 _).mono ?_
    rintro e w' ⟨rfl, rfl⟩
    go_wp2
    go_ret
    exact ⟨ret_bool (by rw [HE.out]; rfl), rfl⟩
  | false =>
    go_enter Tryz.func44, Tryz.ntmps44
    go_wp2_with fail
    refine (c1 _).mono ?_
    rintro e w' ⟨rfl, rfl⟩
    go_wp2_with fail
    refine (c2 _).mono ?_
    rintro e w2 ⟨rfl, rfl⟩
    go_wp2
    go_ret
    exact ⟨ret_bool (by rw [HE.out]; rfl), rfl⟩
theorem undot_any (s : ByteArray) (hs : s.size ≤ 1000000000) (w : World) :
    Calls Tryz.prog 43 #[.string s] w fun e w' => e = .returned (.string (bs (undot (ls s)))) ∧ w = w' := by
  have c1 := Any.strings_TrimSuffix Tryz.lays102 s ⟨#[46]⟩ w (by omega)
  have HE : Hid (bs (undot (ls s)) = ⟨(Lib.trimSuffix s.data.toList [46]).toArray⟩) := by show _ = _; rw [trim_undot]; rfl
  go_enter Tryz.func43, Tryz.ntmps43
  go_wp2_with fail
  refine c1.mono ?_
  rintro e w' ⟨rfl, rfl⟩
  go_wp2
  go_ret
  exact ⟨ret_str HE.out.symm, rfl⟩
end

section
open Go.RowKit

theorem allDigits_any (s : ByteArray) (hs : s.size ≤ 1000000000) (b : Nat) (hb : b ≤ 16) (w : World) :
    Calls Tryz.prog 45 #[.string s, .int .u64 b] w fun e w' => e = .returned (.bool ((ls s).all (fun c => decide (digV c < b)))) ∧ w = w' := by
  go_enter Tryz.func45, Tryz.ntmps45
  go_wp2
  go_loop [8] (fun i => ∃ k : Nat, k ≤ s.size ∧ i = .int .i64 k ∧ Hid ((ls s).all (fun c => decide (digV c < b)) = ((ls s).drop k).all (fun c => decide (digV c < b)))) (fun i => s.size - (intOf i).toNat)
  case atStart => exact ⟨0, Nat.zero_le _, rfl, Lib.hid rfl⟩
  case round =>
    obtain ⟨k, hk, rfl, HA⟩ := hrel
    by_cases hlt : k < s.size
    · have hd := digit_any s[k]
      have HD : Hid (((ls s).drop k).all (fun c => decide (digV c < b)) = (decide (digV s[k] < b) && ((ls s).drop (k + 1)).all (fun c => decide (digV c < b)))) := by
        show _ = _
        rw [drop_ls_cons s k hlt, List.all_cons]
      by_cases hg : digV s[k] < b
      · have hge : decide ((b : Int) ≤ ((pd s[k] : Nat) : Int)) = false := decide_eq_false (by have := (pd_lt s[k] b hb).2 hg; omega)
        have HN : Hid ((ls s).all (fun c => decide (digV c < b)) = ((ls s).drop (k + 1)).all (fun c => decide (digV c < b))) := by
          show _ = _
          rw [HA.out, HD.out, decide_eq_true hg, Bool.true_and]
        clear hg
        generalize ((pd s[k] : Nat) : Int) = d at *
        go_wp2_with (go_at_call 53; refine (hd _).mono ?_; rintro e w' ⟨rfl, rfl⟩)
        go_round
        case rel => exact ⟨k + 1, by omega, by go_num, HN⟩
        case measure => simp [intOf]; omega
      · have hge : decide ((b : Int) ≤ ((pd s[k] : Nat) : Int)) = true := decide_eq_true (by have := mt (pd_lt s[k] b hb).1 hg; omega)
        have HN : Hid ((ls s).all (fun c => decide (digV c < b)) = false) := by
          show _ = _
          rw [HA.out, HD.out, decide_eq_false hg, Bool.false_and]
        clear hg
        generalize ((pd s[k] : Nat) : Int) = d at *
        go_wp2_with (go_at_call 53; refine (hd _).mono ?_; rintro e w' ⟨rfl, rfl⟩)
        go_ret
        exact ⟨ret_bool HN.out.symm, rfl⟩
    · obtain rfl : k = s.size := by omega
      have HN : Hid ((ls s).all (fun c => decide (digV c < b)) = true) := by
        show _ = _
        rw [HA.out, drop_ls_all]
        rfl
      go_wp2
      go_ret
      exact ⟨ret_bool HN.out.symm, rfl⟩
end

section
open Go.RowKit

theorem num_any (s : ByteArray) (hs : s.size ≤ 1000000000) (w : World) :
    Calls Tryz.prog 35 #[.string s] w fun e w' => e = .returned (.bool (numericL (ls s))) ∧ w = w' := by
  have c1 := undot_any s hs w
  obtain ⟨T, hT⟩ : ∃ T, T = bs (undot (ls s)) := ⟨_, rfl⟩
  rw [← hT] at c1
  have hTs : T.size ≤ 1000000000 := by rw [hT, bs_size]; have := undot_le (ls s); rw [ls_length] at this; omega
  obtain ⟨i, hi, hib, hlast⟩ := last_index T
  have c2 := fun W => Any.strings_LastIndexByte Tryz.lays149 T 46 (by omega) W
  obtain ⟨x, hx⟩ : ∃ x, x = Lib.lastIndexByte T 46 := ⟨_, rfl⟩
  rw [← hx] at c2 hi
  obtain ⟨X, hX⟩ : ∃ X, X = T.extract i T.size := ⟨_, rfl⟩
  have hL : ls X = (ls T).drop i := by
    rw [hX, ls_extract]
    exact List.take_of_length_le (by rw [List.length_drop, ls_length]; omega)
  have hXs : X.size ≤ 1000000000 := by rw [hX, ByteArray.size_extract]; omega
  have hV : numericL (ls s) = if hexP (ls X) = true then ((ls X).drop 2).all (fun c => decide (digV c < 16)) else (!(ls X).isEmpty && (ls X).all (fun c => decide (digV c < 10))) := by
    rw [numeric_last, ← lastNum_eq, hL, ← hlast, hT, ls_bs]
  have c3 := isHex_any X
  have hx0 : -1 ≤ x := by omega
  have hx1 : x ≤ 1000000000 := by omega
  have hxi : x = (i : Int) - 1 := by omega
  subst hxi
  have hii : (i : Int) - 1 + 1 = (i : Int) := by omega
  have HX := Lib.hid hX
  clear hT hlast hL hx hi hX
  by_cases hh : hexP (ls X) = true
  · rw [if_pos hh] at hV
    rw [hh] at c3
    obtain ⟨b, r, e, _⟩ := (hexP_iff _).1 hh
    have h2 : 2 ≤ X.size := by rw [← ls_length, e]; simp
    have c4 := allDigits_any (X.extract 2 X.size) (by rw [ByteArray.size_extract]; omega) 16 (by omega)
    have e2 : ls (X.extract 2 X.size) = (ls X).drop 2 := by
      rw [ls_extract]
      exact List.take_of_length_le (by rw [List.length_drop, ls_length]; exact Nat.le_refl _)
    rw [e2] at c4
    have HV := Lib.hid hV
    generalize ((ls X).drop 2).all (fun c => decide (digV c < 16)) = q at *
    clear hV hh e e2
    go_enter Tryz.func35, Tryz.ntmps35
    go_wp2_with fail
    refine c1.mono ?_
    rintro e w' ⟨rfl, rfl⟩
    go_wp2_with fail
    refine (c2 _).mono ?_
    rintro e w' ⟨rfl, rfl⟩
    go_wp2_with fail
    rw [← HX.out]
    refine (c3 _).mono ?_
    rintro e w' ⟨rfl, rfl⟩
    go_wp2_with fail
    refine (c4 _).mono ?_
    rintro e w' ⟨rfl, rfl⟩
    go_wp2
    go_ret
    exact ⟨ret_bool HV.out.symm, rfl⟩
  · rw [if_neg hh] at hV
    rw [Bool.not_eq_true] at hh
    rw [hh] at c3
    have hemp : (ls X).isEmpty = decide (X.size = 0) := isEmpty_ls X
    by_cases h0 : X.size = 0
    · have hE : X.toList = ([] : List UInt8) := by rw [toList_ls]; exact List.eq_nil_of_length_eq_zero (by rw [ls_length]; exact h0)
      have HV : Hid (numericL (ls s) = false) := by show _ = _; rw [hV, hemp, decide_eq_true h0]; rfl
      clear hV hh hemp
      go_enter Tryz.func35, Tryz.ntmps35
      go_wp2_with fail
      refine c1.mono ?_
      rintro e w' ⟨rfl, rfl⟩
      go_wp2_with fail
      refine (c2 _).mono ?_
      rintro e w' ⟨rfl, rfl⟩
      go_wp2_with fail
      rw [← HX.out]
      refine (c3 _).mono ?_
      rintro e w' ⟨rfl, rfl⟩
      go_wp2
      go_ret
      exact ⟨ret_bool HV.out.symm, rfl⟩
    · have hE : ¬ X.toList = ([] : List UInt8) := by rw [toList_ls]; exact ls_some X (Nat.pos_of_ne_zero h0)
      have hE2 : X.toList.isEmpty = false := by rw [toList_ls, hemp, decide_eq_false h0]
      have c4 := allDigits_any X hXs 10 (by omega)
      have HV : Hid (numericL (ls s) = (ls X).all (fun c => decide (digV c < 10))) := by show _ = _; rw [hV, hemp, decide_eq_false h0]; rfl
      generalize (ls X).all (fun c => decide (digV c < 10)) = q at *
      clear hV hh hemp
      go_enter Tryz.func35, Tryz.ntmps35
      go_wp2_with fail
      refine c1.mono ?_
      rintro e w' ⟨rfl, rfl⟩
      go_wp2_with fail
      refine (c2 _).mono ?_
      rintro e w' ⟨rfl, rfl⟩
      go_wp2_with fail
      rw [← HX.out]
      refine (c3 _).mono ?_
      rintro e w' ⟨rfl, rfl⟩
      go_wp2_with fail
      refine (c4 _).mono ?_
      rintro e w' ⟨rfl, rfl⟩
      go_wp2
      go_ret
      exact ⟨ret_bool HV.out.symm, rfl⟩
end

section
open Go.RowKit

theorem ne_empty {s : ByteArray} (h : ¬ s.size = 0) : (ls s).isEmpty = false := by
  cases hl : ls s with
  | nil => exact absurd (by rw [← ls_length, hl]; rfl) h
  | cons _ _ => rfl
theorem lab_zero {s : ByteArray} (h : s.size = 0) : labL (ls s) = false := by
  have : ls s = [] := List.eq_nil_of_length_eq_zero (by rw [ls_length]; exact h)
  rw [this]
  rfl
theorem lab_long {s : ByteArray} (h : 63 < s.size) : labL (ls s) = false := by
  unfold labL endsL
  rw [ls_length, decide_eq_false (p := s.size ≤ 63) (by omega)]
  simp
/-- What is left when the length and the ends are well. -/
def restLab (l : List UInt8) : Bool := l.all (fun b => okN b.toNat) && (decide (l.take 4 ≠ xnL) || propL (l.drop 4))
theorem u8_45 {c : UInt8} : c = 45 ↔ c.toNat = 45 := by
  constructor
  · rintro rfl; rfl
  · intro h; exact UInt8.toNat_inj.1 h
theorem lab_ends {s : ByteArray} {y0 y1 : Nat} (h : 0 < s.size) (h0 : y0 = (s[0]'h).toNat) (h1 : y1 = (s[s.size - 1]'(by omega)).toNat) :
    ((y0 = 45 ∨ y1 = 45) → labL (ls s) = false) ∧ ((y0 ≠ 45 ∧ y1 ≠ 45 ∧ s.size ≤ 63) → labL (ls s) = restLab (ls s)) := by
  have g0 : (ls s).head? = some (s[0]'h) := by rw [List.head?_eq_getElem?, ls_get s 0 h]
  have g1 : (ls s).getLast? = some (s[s.size - 1]'(by omega)) := by rw [List.getLast?_eq_getElem?, ls_length, ls_get s _ (by omega)]
  have hne : ls s ≠ [] := by
    intro e
    have := ls_length s
    rw [e] at this
    simp at this
    omega
  have e : endsL (ls s) = (decide (s.size ≤ 63) && decide (y0 ≠ 45) && decide (y1 ≠ 45)) := by
    unfold endsL
    rw [g0, g1, ls_length, decide_eq_true hne, Bool.true_and]
    congr 1
    · congr 1
      rw [decide_eq_decide]
      rw [h0, ne_eq, ne_eq, Option.some.injEq, u8_45]
    · rw [decide_eq_decide]
      rw [h1, ne_eq, ne_eq, Option.some.injEq, u8_45]
  refine ⟨?_, ?_⟩
  · intro hh
    unfold labL
    rw [e]
    rcases hh with hh | hh
    · simp [hh]
    · simp [hh]
  · rintro ⟨a, b, c⟩
    unfold labL restLab
    rw [e, decide_eq_true a, decide_eq_true b, decide_eq_true c]
    simp
/-- The bytes of a label, by the tests. -/
theorem lb_kind (y : Nat) : (97 ≤ y ∧ y ≤ 122 ∧ okN y = true) ∨ (48 ≤ y ∧ y ≤ 57 ∧ okN y = true) ∨ (y = 45 ∧ okN y = true) ∨ (y = 95 ∧ okN y = true) ∨
    (122 < y ∧ okN y = false) ∨ (y < 48 ∧ y ≠ 45 ∧ okN y = false) ∨ (57 < y ∧ y < 97 ∧ y ≠ 95 ∧ okN y = false) := by
  have e : okN y = (decide (97 ≤ y ∧ y ≤ 122) || decide (48 ≤ y ∧ y ≤ 57) || decide (y = 45) || decide (y = 95)) := by
    unfold okN
    simp only [Bool.decide_and]
    rfl
  rw [e]
  simp only [Bool.or_eq_true, decide_eq_true_eq, Bool.or_eq_false_iff, decide_eq_false_iff_not]
  omega
theorem okN_yes (y : Nat) : okN y = true ↔ (97 ≤ y ∧ y ≤ 122) ∨ (48 ≤ y ∧ y ≤ 57) ∨ y = 45 ∨ y = 95 := by
  unfold okN
  simp only [Bool.or_eq_true, Bool.and_eq_true, decide_eq_true_eq, beq_iff_eq]
  omega
theorem okN_no (y : Nat) : okN y = false ↔ ¬ ((97 ≤ y ∧ y ≤ 122) ∨ (48 ≤ y ∧ y ≤ 57) ∨ y = 45 ∨ y = 95) := by
  rw [← okN_yes, Bool.not_eq_true]
def okK (l : List UInt8) (k : Nat) : Bool := (l.take k).all (fun b => okN b.toNat)
theorem okK_succ (l : List UInt8) (k : Nat) (h : k < l.length) : okK l (k + 1) = (okK l k && okN (l[k]).toNat) := by
  unfold okK
  rw [List.take_succ_eq_append_getElem h, List.all_append]
  simp
theorem rest_bad {l : List UInt8} (k : Nat) (h : k < l.length) (hb : okN (l[k]).toNat = false) : restLab l = false := by
  have : l.all (fun b => okN b.toNat) = false := by
    rw [List.all_eq_false]
    exact ⟨l[k], List.getElem_mem h, by rw [hb]; simp⟩
  unfold restLab
  rw [this]
  rfl
theorem rest_all {l : List UInt8} (h : okK l l.length = true) : restLab l = (decide (l.take 4 ≠ xnL) || propL (l.drop 4)) := by
  unfold okK at h
  rw [List.take_length] at h
  unfold restLab
  rw [h, Bool.true_and]
theorem xn_short {l : List UInt8} (h : l.length < 4) : decide (l.take 4 ≠ xnL) = true := by
  rw [decide_eq_true_iff]
  intro e
  have := congrArg List.length e
  rw [List.length_take] at this
  unfold xnL at this
  simp at this
  omega
end

end Go.Proofs.YthoolifdmemceaaGreatDoor
