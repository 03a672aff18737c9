/-
  Contracts of Clone (of faults) and Arm.
-/
import Derived.Test.YtbknpfngboioeaaDkC
namespace Go.Proofs.Ytbknpfngboioeaa
open Go.RowKit

theorem tyFaults : Try.prog.underlying 33 = some (.slice 70) := by kernel_rfl
theorem infoFault : (Try.prog.info? 70).map (fun i => (i.zero, i.size, i.bytes)) = some (some (.agg #[.int .i64 0, .int .i64 0]), 2, 16) := by kernel_rfl
/-- The cells of pairs. -/
def pairCells : List (Int × Int) → List Value
  | [] => []
  | p :: r => .int .i64 p.1 :: .int .i64 p.2 :: pairCells r
theorem pairCells_length (ps : List (Int × Int)) : (pairCells ps).length = ps.length * 2 := by
  induction ps with
  | nil => rfl
  | cons p r ih => simp [pairCells, ih]; omega
theorem pairCells_get (ps : List (Int × Int)) : ∀ j (h : j < ps.length), (pairCells ps)[j * 2]? = some (.int .i64 ps[j].1) ∧ (pairCells ps)[j * 2 + 1]? = some (.int .i64 ps[j].2) := by
  induction ps with
  | nil => intro j h; simp at h
  | cons p r ih =>
    intro j h
    cases j with
    | zero => simp [pairCells]
    | succ j =>
      have h' : j < r.length := by simpa using h
      obtain ⟨h1, h2⟩ := ih j h'
      rw [show (j + 1) * 2 = j * 2 + 1 + 1 by omega]
      simpa [pairCells] using And.intro h1 h2
theorem pairCells_one (ps : List (Int × Int)) : ∀ u ∈ pairCells ps, u.oneCell' = true := by
  induction ps with
  | nil => intro u h; simp [pairCells] at h
  | cons p r ih =>
    intro u h
    simp [pairCells] at h
    rcases h with rfl | rfl | h
    · rfl
    · rfl
    · exact ih u h
theorem pairs_cells {F : Nat → Prop} {w : World} {A : Option Addr} {m : Nat} {ps : List (Int × Int)} (h : PairsF F w A m ps) (ad : Addr) (hA : A = some ad) : ∀ j u, (pairCells ps)[j]? = some u → w.cell? (ad.add j) = some u := by
  intro j u hj
  have hjl := (List.getElem?_eq_some_iff.1 hj).1
  rw [pairCells_length, h.1] at hjl
  obtain ⟨b, off, e, _, _, hc⟩ := h.2.2 (by omega)
  rw [hA] at e
  injection e with e
  subst e
  have hadd : (⟨b, off, none⟩ : Addr).add j = ⟨b, off + j, none⟩ := by unfold Addr.add; split <;> simp_all
  have hk : j / 2 < ps.length := by rw [h.1]; omega
  obtain ⟨g1, g2⟩ := pairCells_get ps _ hk
  obtain ⟨c1, c2⟩ := hc _ hk
  rw [hadd]
  rcases Nat.mod_two_eq_zero_or_one j with h0 | h0
  · have e1 : j = j / 2 * 2 := by omega
    rw [e1] at hj ⊢
    rw [g1] at hj
    rw [show off + j / 2 * 2 = off + (j / 2) * 2 from rfl, c1, hj]
  · have e1 : j = j / 2 * 2 + 1 := by omega
    rw [e1] at hj ⊢
    rw [g2] at hj
    rw [← Nat.add_assoc, c2, hj]
theorem pairs_none {F : Nat → Prop} {w : World} {m : Nat} {ps : List (Int × Int)} (h : PairsF F w none m ps) : m = 0 ∧ ps = [] := by
  by_cases h0 : 0 < m
  · obtain ⟨b, off, e, _⟩ := h.2.2 h0
    cases e
  · exact ⟨by omega, List.eq_nil_of_length_eq_zero (by rw [h.1]; omega)⟩
theorem flt_of_own {w w' : World} {e : Value} {m : Nat} {ps : List (Int × Int)} (h : w'.ownsRow w.heap.size 70 2 e m (pairCells ps)) (hm : ps.length = m) :
    ∃ A c, e = .slice A m c ∧ FltAt w' (newF w w') A m ps := by
  rcases h.2 with ⟨rfl, h0⟩ | ⟨g, cap, cur, rfl, hb, hg, hnc, _, hsz, htake⟩
  · subst h0
    exact ⟨none, 0, rfl, hm, fun h => absurd h (by omega)⟩
  · refine ⟨_, _, rfl, hm, fun _ => ⟨g, cur, rfl, ⟨hb, lt_of_some hg⟩, hg, fun j hj => ?_⟩⟩
    obtain ⟨g1, g2⟩ := pairCells_get ps j hj
    rw [← htake] at g1 g2
    rw [List.getElem?_take_of_lt (by omega)] at g1
    rw [List.getElem?_take_of_lt (by omega)] at g2
    simpa using And.intro g1 g2

set_option maxRecDepth 20000 in
set_option maxHeartbeats 1600000 in
theorem clone_any {F : Nat → Prop} (A : Option Addr) (m c : Nat) (ps : List (Int × Int)) (w : World) (hP : PairsF F w A m ps) (hm : m ≤ 1000000) (hA : A = none → c = 0) :
    Calls Try.prog 60 #[.slice A m c] w fun e w' => ∃ A' c', e = .returned (.slice A' m c') ∧ FltAt w' (newF w w') A' m ps ∧ Below w.heap.size w w' := by
  match A, hP, hA with
  | none, hP, hA =>
    obtain ⟨rfl, rfl⟩ := pairs_none hP
    obtain rfl := hA rfl
    clear hP hA
    have q0 : ∀ W : World, (binOp .eql 33 (.slice none 0 0) (.slice none 0 0)).run Try.prog W = .ok (.bool true) W := fun W => Lib.run_eql_slice_nil W _ _ none 0 0 0 0 tyFaults
    go_enter Try.func60, Try.ntmps60
    go_wp2
    go_ret
    exact ⟨none, ⟨0, rfl⟩, ⟨rfl, fun h => absurd h (by omega)⟩, Below.refl _ _⟩
  | some ad, hP, _ =>
    obtain ⟨i5, hi5, hz0, hz1, hz2⟩ := info_parts infoFault
    have hown : (w.alloc (.cells #[] 70)).ownsRow w.heap.size 70 2 (.slice (some ⟨w.heap.size, 0, none⟩) 0 0) 0 [] :=
      ⟨rfl, .inr ⟨w.heap.size, 0, #[], rfl, Nat.le_refl _, by show (w.heap.push _)[w.heap.size]? = _; simp, Nat.le_refl _, Nat.zero_le _, rfl, rfl⟩⟩
    have hb := (Below.refl w.heap.size w).alloc (Nat.le_refl _) (.cells #[] 70)
    have hP' := hP.keep (Frm.of_below hb) fun b h => .inl h
    have HP := Lib.hid hP'
    have HM := Lib.hid hm
    have HC := Lib.hid (pairs_cells hP' ad rfl)
    have HL : Hid ((pairCells ps).length = m * 2) := by show _ = _; rw [pairCells_length, hP.1]
    have hb1 : Hid (0 + m ≤ maxLen) := by show _ ≤ _; unfold maxLen; omega
    have hb2 : Hid ((0 + m) * 16 ≤ 140737488355328) := by show _ ≤ _; omega
    clear hP hP' hm
    have q0 : ∀ W : World, (binOp .eql 33 (.slice (some ad) m c) (.slice none 0 0)).run Try.prog W = .ok (.bool false) W := fun W => Lib.run_eql_slice_nil W _ _ (some ad) m c 0 0 tyFaults
    go_enter Try.func60, Try.ntmps60
    go_wp2_with (at_builtin; refine wpList_append_own _ rfl _ _ 33 (by exact rfl) w.heap.size 70 i5 _ 2 16 tyFaults hi5 hz0 hz1 hz2 rfl (by decide) _ 0 [] (by exact rfl) hown ad m c (pairCells ps) (by exact rfl) HL.out HC.out (pairCells_one ps) hb1.out hb2.out (by simp) ?_; intro v' w' hown' hgr _)
    go_ret
    rw [Nat.zero_add, List.nil_append] at hown'
    obtain ⟨A', c', rfl, hf⟩ := flt_of_own hown' HP.out.1
    exact ⟨A', c', rfl, hf, hb.grown hgr (by simp) fun k e => Nat.le_of_eq (Option.some.inj e)⟩

set_option maxHeartbeats 400000 in
theorem arm_nil (A : Option Addr) (m c : Nat) (w : World) : Calls Try.prog 19 #[.pointer none, .slice A m c] w fun e w' => e = .returned (.int .i64 1) ∧ w = w' := by
  go_enter Try.func19, Try.ntmps19
  go_wp2
  go_ret
  exact ⟨rfl, rfl⟩
theorem arm_wide {w2 : World} {F : Nat → Prop} {a n : Nat} {S : Dsk} (h : PD w2 F a n S) (w1 : World) : PD w2 (fun k => F k ∨ newF w1 w2 k) a n S := h.more (fun b h => .inl h) fun b hb => hb.elim (h.lt b) fun h => h.2
theorem flt_wide {w1 w2 : World} (F : Nat → Prop) {A : Option Addr} {m : Nat} {fs : List (Int × Int)} (h : FltAt w2 (newF w1 w2) A m fs) : FltAt w2 (fun k => F k ∨ newF w1 w2 k) A m fs :=
  ⟨h.1, fun h0 => by obtain ⟨b, cur, e1, e2, e3⟩ := h.2 h0; exact ⟨b, cur, e1, .inr e2, e3⟩⟩
/-- Whether faults may be armed. -/
def armOk (ps : List (Int × Int)) : Bool := decide (ps.length ≤ 64) && !badFs ps
set_option maxRecDepth 20000 in
set_option maxHeartbeats 1600000 in
theorem arm_any {w : World} {F : Nat → Prop} {a n : Nat} {S : Dsk} (h : PD w F a n S) (A : Option Addr) (m c : Nat) (ps : List (Int × Int)) (hP : PairsF F w A m ps) (hm : m ≤ 1000000) (hA : A = none → c = 0) :
    Calls Try.prog 19 #[.pointer (some ⟨a, 0, none⟩), .slice A m c] w fun e w' => e = .returned (.int .i64 (if armOk ps then 0 else 1)) ∧ PD w' (fun k => F k ∨ newF w w' k) a n (if armOk ps then S.armed ps else S) ∧ Frm F w w' := by
  have hwid : ∀ {S' : Dsk} (w1 : World), Below w.heap.size w w1 → PD w1 F a n S' → PD w1 (fun k => F k ∨ newF w w1 k) a n S' := fun w1 hb hpd => hpd.more (fun b hb => .inl hb) fun b hb => hb.elim (hpd.lt b) fun h => h.2
  by_cases h64 : m ≤ 64
  · have h64i : ¬ ((64 : Int) < (m : Int)) := by omega
    have HW : Hid (∀ {S' : Dsk} (w1 : World), Below w.heap.size w w1 → PD w1 F a n S' → PD w1 (fun k => F k ∨ newF w w1 k) a n S') := hwid
    cases hb : badFs ps with
    | true =>
      have hok : armOk ps = false := by simp [armOk, hb]
      rw [hok]
      have HB := Lib.hid hb
      have H := Lib.hid h
      have HP := Lib.hid hP
      clear hb hok hwid h hP h64
      go_enter Try.func19, Try.ntmps19
      go_wp2_with (go_at_call 57; refine (containsFunc_any A m c ps w HP.out hm).mono ?_; rintro e w1 ⟨rfl, hb1⟩; rw [HB.out])
      go_ret
      exact ⟨by simp, by simpa using HW.out w1 hb1 (H.out.below hb1), Frm.of_below hb1⟩
    | false =>
      have hok : armOk ps = true := by simp [armOk, hb, hP.1, h64]
      rw [hok]
      have HB := Lib.hid hb
      have H := Lib.hid h
      have HP := Lib.hid hP
      have H64 := Lib.hid h64
      have HM := Lib.hid hm
      clear hb hok hwid h hP h64 hm
      go_enter Try.func19, Try.ntmps19
      go_wp2_with (first
        | (go_at_call 57; refine (containsFunc_any A m c ps w HP.out HM.out).mono ?_; rintro e w1 ⟨rfl, hb1⟩; rw [HB.out])
        | (go_at_call 60; refine (clone_any A m c ps w1 (HP.out.keep (Frm.of_below hb1) fun b h => .inl h) HM.out hA).mono ?_; rintro e w2 ⟨A', c', rfl, hfl, hb2⟩; have hpd2 := arm_wide ((H.out.below hb1).below hb2) w1; have hfl2 := flt_wide F hfl)
        | (go_at_call 59; refine (arm_in hpd2 A' m c' ps hfl2 H64.out).mono ?_; rintro e w3 ⟨rfl, hpd, hf⟩))
      go_ret
      have s1 := hb1.size
      have s3 := hf.size
      refine ⟨by simp, ?_, ((Frm.of_below hb1).trans (Frm.of_below (F := F) hb2) fun _ h => .inl h).trans hf fun b hb => hb.elim .inl fun hb => .inr (by have := hb.1; omega)⟩
      refine hpd.more ?_ ?_
      · rintro b (hb | hb)
        · exact .inl hb
        · exact .inr ⟨by have := hb.1; omega, by have := hb.2; omega⟩
      · rintro b (hb | hb)
        · exact hpd.lt b (.inl hb)
        · exact hb.2
  · have h64i : ((64 : Int) < (m : Int)) := by omega
    have hok : armOk ps = false := by simp [armOk, hP.1]; omega
    rw [hok]
    have H := Lib.hid h
    have HW : Hid (∀ {S' : Dsk} (w1 : World), Below w.heap.size w w1 → PD w1 F a n S' → PD w1 (fun k => F k ∨ newF w w1 k) a n S') := hwid
    clear hok h hP h64 hwid hm
    go_enter Try.func19, Try.ntmps19
    go_wp2
    go_ret
    exact ⟨by simp, by simpa using HW.out w (Below.refl _ _) H.out, Frm.refl _ _⟩

end Go.Proofs.Ytbknpfngboioeaa
