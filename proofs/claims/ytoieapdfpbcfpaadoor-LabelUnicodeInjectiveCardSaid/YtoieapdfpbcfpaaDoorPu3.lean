/-
  Contract of the reference's Encode of layer 12, of any numbers.
-/
import Derived.Test.YtoieapdfpbcfpaaDoorPu2
namespace Go.Proofs.YtoieapdfpbcfpaaDoor
open Go.RowKit

/-- A number in a cell. -/
abbrev zv (z : Int) : Value := .int .i64 z
theorem iv_zv (P : List Nat) : P.map iv = (P.map (fun n : Nat => (n : Int))).map zv := by rw [List.map_map]; rfl
theorem cell_zv {w wr : World} {B b off len : Nat} {Z : List Int} (h : Has w B (some ⟨b, off, none⟩) len (Z.map zv)) (hb : Below w.heap.size w wr) (hB : B ≤ w.heap.size) (k : Nat) (hk : k < len) (hk2 : k < Z.length) : wr.cell? ⟨b, off + k, none⟩ = some (.int .i64 Z[k]) := by
  obtain ⟨b', off', e, hlt, hc⟩ := h.at_ hk
  injection e with e
  injection e with e1 e2 _
  subst e1 e2
  rw [hb.cell (p := ⟨b, off + k, none⟩) (Nat.lt_of_lt_of_le hlt hB), hc, List.getElem_map]

theorem refEnc_long (A : Option Addr) (len cap : Nat) (w : World) (hl : 256 < len) :
    Calls Tryd.prog 22 #[.slice A len cap] w fun e w' => e = .returned (.tuple #[.string (bs []), .int .i64 3]) ∧ Below w.heap.size w w' := by
  have hd : decide ((256 : Int) < (len : Int)) = true := decide_eq_true (by omega)
  go_enter Tryd.func22, Tryd.ntmps22
  go_wp2
  go_ret2
  exact ⟨rfl, Below.refl _ _⟩

set_option maxRecDepth 20000 in
set_option maxHeartbeats 4000000 in
theorem refEnc_bad (Z : List Int) (hZ : ¬ Z.all ptZ = true) (hl : Z.length ≤ 256) (A : Option Addr) (len cap B : Nat) (w : World) (hA : Has w B A len (Z.map zv)) (hB : B ≤ w.heap.size) :
    Calls Tryd.prog 22 #[.slice A len cap] w fun e w' => e = .returned (.tuple #[.string (bs []), .int .i64 2]) ∧ Below w.heap.size w w' := by
  obtain ⟨i5, hi5, hz0, hz1, hz2⟩ := info_parts infoU8
  have hlen : len = Z.length := by have := hA.1; simpa using this.symm
  subst hlen
  have H := Lib.hid hA
  have HZ := Lib.hid hZ
  clear hA hZ
  have hd256 : decide ((256 : Int) < (Z.length : Int)) = false := decide_eq_false (by omega)
  go_enter Tryd.func22, Tryd.ntmps22
  go_wp2
  go_loopw [4, 5] (fun v i wr => ∃ (k : Nat) (O : List UInt8), k ≤ Z.length ∧ i = .int .i64 k ∧ Hid ((Z.take k).all ptZ = true) ∧ O.length ≤ k ∧ wr.ownsRow w.heap.size 5 1 v O.length (O.map bv) ∧ Below w.heap.size w wr) (fun _ i _ => Z.length - (intOf i).toNat)
  case atStart => exact ⟨0, [], Nat.zero_le _, rfl, Lib.hid rfl, by simp, World.ownsRow_nil _ _ _ _, Below.refl _ _⟩
  case round =>
    obtain ⟨k, O, hk, rfl, HALL, hOl, hown, hb⟩ := hrel
    by_cases hlt : k < Z.length
    · obtain ⟨b1, o1, rfl, l1, d1⟩ := H.out.2 (by omega)
      have g1 := cell_zv H.out hb hB k hlt hlt
      have c1 := refPoint_any Z[k]
      have htk : Z.take (k + 1) = Z.take k ++ [Z[k]] := List.take_succ_eq_append_getElem hlt
      obtain ⟨z, hz⟩ : ∃ z, z = Z[k] := ⟨_, rfl⟩
      rw [← hz] at g1 c1 htk
      clear d1 hz
      by_cases hpt : ptZ z = true
      · have HALL2 : Hid ((Z.take (k + 1)).all ptZ = true) := by
          show _ = _
          rw [htk, List.all_append, HALL.out]
          simpa using hpt
        have hz01 : 0 ≤ z ∧ z ≤ 1114111 := by
          unfold ptZ at hpt
          simp at hpt
          have := ptN_le hpt.2
          omega
        obtain ⟨hz0', hz1'⟩ := hz01
        rw [hpt] at c1
        clear htk hpt
        by_cases h128 : z < 128
        · have hd : decide (z < 128) = true := decide_eq_true h128
          obtain ⟨p, rfl⟩ : ∃ p : Nat, z = (p : Int) := ⟨z.toNat, by omega⟩
          have HBV := Lib.hid (bv_ofNat (p := p) (by omega))
          go_wp2_with (first | (go_at_call 39; refine (c1 _).mono ?_; rintro e w' ⟨rfl, rfl⟩) | (at_builtin; refine wpList_app_one wr rfl _ _ 41 rfl w.heap.size 5 i5 (.int .u8 0) 1 tyBs hi5 hz0 hz1 hz2 rfl _ (by exact rfl) _ _ _ (by exact rfl) hown (by exact rfl) (by unfold maxLen; omega) (by omega) hb (Nat.le_refl _) ?_; intro v' w' hown' hb' _))
          go_roundw
          case rel =>
            refine ⟨k + 1, O ++ [UInt8.ofNat p], by omega, by go_num, HALL2, by simp; omega, ?_, hb'⟩
            rw [List.map_append, List.length_append]
            simp only [List.map_cons, List.map_nil, HBV.out, List.length_singleton]
            exact hown'
          case measure => simp [intOf]; omega
        · have hd : decide (z < 128) = false := decide_eq_false h128
          go_wp2_with (go_at_call 39; refine (c1 _).mono ?_; rintro e w' ⟨rfl, rfl⟩)
          go_roundw
          case rel => exact ⟨k + 1, O, by omega, by go_num, HALL2, by omega, hown, hb⟩
          case measure => simp [intOf]; omega
      · rw [Bool.not_eq_true] at hpt
        rw [hpt] at c1
        clear htk hpt
        go_wp2_with (go_at_call 39; refine (c1 _).mono ?_; rintro e w' ⟨rfl, rfl⟩)
        go_ret2
        exact ⟨rfl, hb⟩
    · exfalso
      have e : k = Z.length := by omega
      have := HALL.out
      rw [e, List.take_length] at this
      exact HZ.out this

/-- The reference's Encode. -/
theorem refEnc_any (Z : List Int) (A : Option Addr) (len cap B : Nat) (w : World) (hA : Has w B A len (Z.map zv)) (hB : B ≤ w.heap.size) :
    Calls Tryd.prog 22 #[.slice A len cap] w fun e w' => e = .returned (.tuple #[.string (bs (encL Z).2), .int .i64 ((encL Z).1 : Nat)]) ∧ Below w.heap.size w w' := by
  have hlen : len = Z.length := by have := hA.1; simpa using this.symm
  by_cases h1 : 256 < Z.length
  · have e : encL Z = (3, []) := by unfold encL; rw [if_pos h1]
    rw [e]
    exact refEnc_long A len cap w (by omega)
  · by_cases h2 : Z.all ptZ = true
    · have e : encL Z = (0, encB (Z.map Int.toNat)) := by unfold encL; rw [if_neg h1, if_pos h2]
      obtain ⟨hP, hZ⟩ := all_pt h2
      rw [e]
      refine refEnc_ok _ hP (by rw [List.length_map]; omega) A len cap B w ?_ hB
      rw [iv_zv, hZ]
      exact hA
    · have e : encL Z = (2, []) := by unfold encL; rw [if_neg h1, if_neg h2]
      rw [e]
      exact refEnc_bad Z h2 (by omega) A len cap B w hA hB

end Go.Proofs.YtoieapdfpbcfpaaDoor
