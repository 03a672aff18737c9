/-
  Contracts of slices.IndexFunc and slices.ContainsFunc with package label's two tests.
-/
import Derived.Test.YtoieapdfpbcfpaaDoorLbS
namespace Go.Proofs.YtoieapdfpbcfpaaDoor
open Go.RowKit

theorem any_drop (P : List Nat) (q : Nat → Bool) (k : Nat) (h : k < P.length) : (P.drop k).any q = (q P[k] || (P.drop (k + 1)).any q) := by
  rw [List.drop_eq_getElem_cons h, List.any_cons]

set_option maxRecDepth 20000 in
set_option maxHeartbeats 1600000 in
theorem ifN_any (P : List Nat) (hP : ∀ x ∈ P, x ≤ 1114111) (A : Option Addr) (cap B : Nat) (w : World) (hA : Has w B A P.length (P.map nvI)) (hB : B ≤ w.heap.size) (hl : P.length ≤ 1000000) :
    Calls Tryd.prog 61 #[.slice A P.length cap, .func (.func 48) #[] #[]] w fun e w' => ∃ r : Int, e = .returned (.int .i64 r) ∧ decide (0 ≤ r) = P.any (fun x => decide (128 ≤ x)) ∧ Below w.heap.size w w' := by
  have HA := Lib.hid hA
  have HP := Lib.hid hP
  have HL := Lib.hid hl
  clear hA hP hl
  go_enter Tryd.func61, Tryd.ntmps61
  go_wp2
  go_loopw [8] (fun i wr => ∃ k : Nat, k ≤ P.length ∧ i = .int .i64 k ∧ Hid (Below w.heap.size w wr ∧ P.any (fun x => decide (128 ≤ x)) = (P.drop k).any (fun x => decide (128 ≤ x)))) (fun i _ => P.length - (RowKit.intOf i).toNat)
  case atStart => exact ⟨0, Nat.zero_le _, rfl, Below.refl _ _, by rw [List.drop_zero]⟩
  case round =>
    obtain ⟨k, hk, rfl, HR⟩ := hrel
    have hkb : (k : Int) ≤ 1000000 := by have := HL.out; omega
    by_cases hlt : k < P.length
    · obtain ⟨b, off, rfl, hbw, hc⟩ := HA.out.2 (by omega)
      have h1 := hc k (by rw [List.length_map]; exact hlt)
      rw [List.getElem_map] at h1
      have d1 := (HR.out.1.cell (p := ⟨b, off + k, none⟩) (Nat.lt_of_lt_of_le hbw hB)).trans h1
      have hstep : Hid (P.any (fun x => decide (128 ≤ x)) = ((fun x => decide (128 ≤ x)) P[k] || (P.drop (k + 1)).any (fun x => decide (128 ≤ x)))) := by
        show _ = _
        rw [HR.out.2, any_drop P (fun x => decide (128 ≤ x)) k hlt]
      have hx := HP.out _ (List.getElem_mem hlt)
      obtain ⟨x, hxx⟩ : ∃ x, x = P[k] := ⟨_, rfl⟩
      rw [← hxx] at d1 hstep hx
      clear hc h1 hxx
      have cF := nb_any x
      cases hb : (fun x => decide (128 ≤ x)) x with
      | true =>
        have HB := Lib.hid hb
        rw [show decide (128 ≤ x) = (fun x => decide (128 ≤ x)) x from rfl, hb] at cF
        clear hb
        go_wp2_with (go_at_call 48; refine (cF wr).mono ?_; rintro e w1 ⟨rfl, rfl⟩)
        go_ret
        refine ⟨k, rfl, ?_, HR.out.1⟩
        rw [hstep.out, HB.out, Bool.true_or, decide_eq_true_iff]
        omega
      | false =>
        have HB := Lib.hid hb
        rw [show decide (128 ≤ x) = (fun x => decide (128 ≤ x)) x from rfl, hb] at cF
        clear hb
        go_wp2_with (go_at_call 48; refine (cF wr).mono ?_; rintro e w1 ⟨rfl, rfl⟩)
        go_roundw
        case rel => exact ⟨k + 1, by omega, by go_num, HR.out.1, by rw [hstep.out, HB.out, Bool.false_or]⟩
        case measure => simp [RowKit.intOf]; omega
    · have hkm : k = P.length := by omega
      have hz : Hid (P.any (fun x => decide (128 ≤ x)) = false) := by
        show _ = _
        rw [HR.out.2, hkm, List.drop_length]
        rfl
      have HBl := Lib.hid HR.out.1
      clear hkm
      go_wp2
      go_ret
      exact ⟨-1, rfl, by rw [hz.out]; decide, HBl.out⟩
theorem cfN_any (P : List Nat) (hP : ∀ x ∈ P, x ≤ 1114111) (A : Option Addr) (cap B : Nat) (w : World) (hA : Has w B A P.length (P.map nvI)) (hB : B ≤ w.heap.size) (hl : P.length ≤ 1000000) :
    Calls Tryd.prog 47 #[.slice A P.length cap, .func (.func 48) #[] #[]] w fun e w' => e = .returned (.bool (P.any (fun x => decide (128 ≤ x)))) ∧ Below w.heap.size w w' := by
  have hc := ifN_any P hP A cap B w hA hB hl
  obtain ⟨R, hR⟩ : ∃ R, R = P.any (fun x => decide (128 ≤ x)) := ⟨_, rfl⟩
  rw [← hR] at hc ⊢
  clear hP hA hl hR
  go_enter Tryd.func47, Tryd.ntmps47
  go_wp2_with (go_at_call 61; refine hc.mono ?_; rintro e w1 ⟨r, rfl, hr, hb1⟩; have HR := Lib.hid hr; clear hr)
  go_ret
  exact ⟨ret_bool (by rw [← HR.out]), hb1⟩

set_option maxRecDepth 20000 in
set_option maxHeartbeats 1600000 in
theorem ifU_any (P : List Nat) (hP : ∀ x ∈ P, x ≤ 1114111) (A : Option Addr) (cap B : Nat) (w : World) (hA : Has w B A P.length (P.map nvI)) (hB : B ≤ w.heap.size) (hl : P.length ≤ 1000000) :
    Calls Tryd.prog 61 #[.slice A P.length cap, .func (.func 49) #[] #[]] w fun e w' => ∃ r : Int, e = .returned (.int .i64 r) ∧ decide (0 ≤ r) = P.any bigP ∧ Below w.heap.size w w' := by
  have HA := Lib.hid hA
  have HP := Lib.hid hP
  have HL := Lib.hid hl
  clear hA hP hl
  go_enter Tryd.func61, Tryd.ntmps61
  go_wp2
  go_loopw [8] (fun i wr => ∃ k : Nat, k ≤ P.length ∧ i = .int .i64 k ∧ Hid (Below w.heap.size w wr ∧ P.any bigP = (P.drop k).any bigP)) (fun i _ => P.length - (RowKit.intOf i).toNat)
  case atStart => exact ⟨0, Nat.zero_le _, rfl, Below.refl _ _, by rw [List.drop_zero]⟩
  case round =>
    obtain ⟨k, hk, rfl, HR⟩ := hrel
    have hkb : (k : Int) ≤ 1000000 := by have := HL.out; omega
    by_cases hlt : k < P.length
    · obtain ⟨b, off, rfl, hbw, hc⟩ := HA.out.2 (by omega)
      have h1 := hc k (by rw [List.length_map]; exact hlt)
      rw [List.getElem_map] at h1
      have d1 := (HR.out.1.cell (p := ⟨b, off + k, none⟩) (Nat.lt_of_lt_of_le hbw hB)).trans h1
      have hstep : Hid (P.any bigP = (bigP P[k] || (P.drop (k + 1)).any bigP)) := by
        show _ = _
        rw [HR.out.2, any_drop P bigP k hlt]
      have hx := HP.out _ (List.getElem_mem hlt)
      obtain ⟨x, hxx⟩ : ∃ x, x = P[k] := ⟨_, rfl⟩
      rw [← hxx] at d1 hstep hx
      clear hc h1 hxx
      have cF := iu_any x
      cases hb : bigP x with
      | true =>
        have HB := Lib.hid hb
        rw [show bigP x = bigP x from rfl, hb] at cF
        clear hb
        go_wp2_with (go_at_call 49; refine (cF wr).mono ?_; rintro e w1 ⟨rfl, rfl⟩)
        go_ret
        refine ⟨k, rfl, ?_, HR.out.1⟩
        rw [hstep.out, HB.out, Bool.true_or, decide_eq_true_iff]
        omega
      | false =>
        have HB := Lib.hid hb
        rw [show bigP x = bigP x from rfl, hb] at cF
        clear hb
        go_wp2_with (go_at_call 49; refine (cF wr).mono ?_; rintro e w1 ⟨rfl, rfl⟩)
        go_roundw
        case rel => exact ⟨k + 1, by omega, by go_num, HR.out.1, by rw [hstep.out, HB.out, Bool.false_or]⟩
        case measure => simp [RowKit.intOf]; omega
    · have hkm : k = P.length := by omega
      have hz : Hid (P.any bigP = false) := by
        show _ = _
        rw [HR.out.2, hkm, List.drop_length]
        rfl
      have HBl := Lib.hid HR.out.1
      clear hkm
      go_wp2
      go_ret
      exact ⟨-1, rfl, by rw [hz.out]; decide, HBl.out⟩
theorem cfU_any (P : List Nat) (hP : ∀ x ∈ P, x ≤ 1114111) (A : Option Addr) (cap B : Nat) (w : World) (hA : Has w B A P.length (P.map nvI)) (hB : B ≤ w.heap.size) (hl : P.length ≤ 1000000) :
    Calls Tryd.prog 47 #[.slice A P.length cap, .func (.func 49) #[] #[]] w fun e w' => e = .returned (.bool (P.any bigP)) ∧ Below w.heap.size w w' := by
  have hc := ifU_any P hP A cap B w hA hB hl
  obtain ⟨R, hR⟩ : ∃ R, R = P.any bigP := ⟨_, rfl⟩
  rw [← hR] at hc ⊢
  clear hP hA hl hR
  go_enter Tryd.func47, Tryd.ntmps47
  go_wp2_with (go_at_call 61; refine hc.mono ?_; rintro e w1 ⟨r, rfl, hr, hb1⟩; have HR := Lib.hid hr; clear hr)
  go_ret
  exact ⟨ret_bool (by rw [← HR.out]), hb1⟩

end Go.Proofs.YtoieapdfpbcfpaaDoor
