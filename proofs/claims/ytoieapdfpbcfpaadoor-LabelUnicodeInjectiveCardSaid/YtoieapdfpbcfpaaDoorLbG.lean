/-
  Contracts of package label's pointsOf and textOf.
-/
import Derived.Test.YtoieapdfpbcfpaaDoorLbT
import Derived.Test.YtoieapdfpbcfpaaDoorLbC
import Derived.Test.YtoieapdfpbcfpaaDoorTxt
import Derived.Test.YtoieapdfpbcfpaaDoorPuB
import Derived.Deep.LoopGhost
import Derived.BigQuiet
namespace Go.Proofs.YtoieapdfpbcfpaaDoor
open Go.RowKit

set_option maxRecDepth 20000 in
set_option maxHeartbeats 2000000 in
theorem pof_any (s : ByteArray) (P : List Nat) (hp : ptsL (ls s) = some P) (w : World) (hs : s.size ≤ 1000000000) (hT : U8 w) :
    Calls Tryd.prog 20 #[.string s] w fun e w' => (∃ v, e = .returned v ∧ w'.ownsRow w.heap.size 3 1 v P.length (P.map nvI)) ∧ Below w.heap.size w w' := by
  obtain ⟨i3, hi3, hz0, hz1, hz2⟩ := info_parts infoInt
  have HPT := Lib.hid (txt_pts hp).1
  have hPl : P.length ≤ s.size := by
    have h1 := (txtL_len P).1
    rw [(txt_pts hp).2, ls_length] at h1
    exact h1
  have HPL := Lib.hid (Nat.le_trans hPl hs)
  have HT := Lib.hid hT
  have HP0 := Lib.hid hp
  clear hPl hs hT hp
  go_enter Tryd.func20, Tryd.ntmps20
  go_wp2
  go_loopg [0, 3] s.size (fun g sv v wr => ∃ (t : ByteArray) (Q acc : List Nat), g = t.size ∧ sv = .string t ∧ Hid (ptsL (ls t) = some Q) ∧ Hid (acc ++ Q = P) ∧ wr.ownsRow w.heap.size 3 1 v acc.length (acc.map nvI) ∧ Below w.heap.size w wr)
  case atStart => exact ⟨s, P, [], rfl, rfl, HP0, rfl, World.ownsRow_nil _ _ _ _, Below.refl _ _⟩
  case round =>
    obtain ⟨t, Q, acc, hg, rfl, HQ, HA, hown, hb⟩ := hrel
    have HG := Lib.hid hg
    clear hg
    have hal : acc.length ≤ 1000000000 := by
      have := HPL.out
      rw [← HA.out, List.length_append] at this
      omega
    by_cases h0 : t.size = 0
    · have he : t.toList.isEmpty = true := by rw [toList_ls]; exact List.isEmpty_iff.2 (List.eq_nil_of_length_eq_zero (by rw [ls_length]; exact h0))
      have HE : Hid (acc = P) := by
        have hn : ls t = [] := List.eq_nil_of_length_eq_zero (by rw [ls_length]; exact h0)
        have h1 := HQ.out
        rw [hn, ptsL_nil] at h1
        injection h1 with h1
        have h2 := HA.out
        rw [← h1, List.append_nil] at h2
        exact h2
      clear h0
      go_wp2
      go_ret
      rw [← HE.out]
      exact ⟨⟨_, rfl, hown⟩, hb⟩
    · have he : t.toList.isEmpty = false := by rw [toList_ls]; exact ne_empty h0
      obtain ⟨p, Q2, hQ2⟩ : ∃ p Q2, Q = p :: Q2 := by
        cases Q with
        | nil =>
          exfalso
          have h1 := (txt_pts HQ.out).2
          have := congrArg List.length h1
          rw [ls_length] at this
          exact h0 this.symm
        | cons p Q2 => exact ⟨p, Q2, rfl⟩
      have hq := HQ.out
      rw [hQ2] at hq
      obtain ⟨k, hk1, hk2, hk3, cD⟩ := dr_any hq
      have hpt : ptN p = true := HPT.out p (by rw [← HA.out, hQ2]; simp)
      have hple := ptN_le hpt
      have HX : Hid (ptsL (ls (t.extract k t.size)) = some Q2) := by
        show _ = _
        rw [ls_extract, List.take_of_length_le (by rw [List.length_drop, ls_length]; exact Nat.le_refl _)]
        exact hk3
      have HA2 : Hid ((acc ++ [p]) ++ Q2 = P) := by show _ = _; rw [← HA.out, hQ2]; simp
      have c1 := cD wr (u8_below HT.out hb)
      have hkz : (k : Int) ≤ (t.size : Int) := by omega
      have hk0 : (0 : Int) ≤ (k : Int) := by omega
      have hp0 : (0 : Int) ≤ (p : Int) := by omega
      have hp1 : (p : Int) ≤ 1114111 := by omega
      clear hq hQ2 hk3 cD hpt hple h0
      go_wp2_with fail
      refine c1.mono ?_
      rintro e w1 ⟨rfl, hb1⟩
      have hown1 := own_below hown hb1
      replace hb1 := hb.trans (hb1.mono hb.size)
      clear hown
      go_wp2_with (at_builtin; refine wpList_app_one _ rfl _ _ 32 rfl w.heap.size 3 i3 (.int .i64 0) 8 tyInts hi3 hz0 hz1 hz2 rfl _ (by exact rfl) _ _ _ (by exact rfl) hown1 (by exact rfl) (by unfold maxLen; omega) (by omega) hb1 (Nat.le_refl _) ?_; intro v' w' hown' hb' _)
      go_roundg (t.size - k)
      case rel =>
        refine ⟨_, Q2, acc ++ [p], ?_, rfl, HX, HA2, ?_, hb'⟩
        · rw [ByteArray.size_extract]; omega
        · rw [List.length_append, List.map_append]
          exact hown'
      case measure => have := HG.out; omega

set_option maxRecDepth 20000 in
set_option maxHeartbeats 2000000 in
theorem tof_any (P : List Nat) (hP : ∀ x ∈ P, ptN x = true) (A : Option Addr) (cap B : Nat) (w : World) (hA : Has w B A P.length (P.map nvI)) (hB : B ≤ w.heap.size) (hl : P.length ≤ 100000000) :
    Calls Tryd.prog 27 #[.slice A P.length cap] w fun e w' => e = .returned (.string (bs (txtL P))) ∧ Below w.heap.size w w' := by
  have HA := Lib.hid hA
  have HPT := Lib.hid hP
  have HL := Lib.hid hl
  clear hA hP hl
  go_enter Tryd.func27, Tryd.ntmps27
  go_wp2
  go_loopw [3, 8] (fun v i wr => ∃ k : Nat, k ≤ P.length ∧ i = .int .i64 k ∧ wr.ownsRow w.heap.size 5 1 v (txtL (P.take k)).length ((txtL (P.take k)).map bv) ∧ Below w.heap.size w wr) (fun _ i _ => P.length - (RowKit.intOf i).toNat)
  case atStart => exact ⟨0, Nat.zero_le _, rfl, World.ownsRow_nil _ _ _ _, Below.refl _ _⟩
  case round =>
    obtain ⟨k, hk, rfl, hown, hb⟩ := hrel
    have hkb : (k : Int) ≤ 100000000 := by have := HL.out; omega
    by_cases hlt : k < P.length
    · obtain ⟨b, off, rfl, hbw, hc⟩ := HA.out.2 (by omega)
      have h1 := hc k (by rw [List.length_map]; exact hlt)
      rw [List.getElem_map] at h1
      have d1 := (hb.cell (p := ⟨b, off + k, none⟩) (Nat.lt_of_lt_of_le hbw hB)).trans h1
      have hpt := HPT.out _ (List.getElem_mem hlt)
      have hsn := Lib.hid (txt_snoc P k hlt)
      have hkl : (txtL (P.take k)).length ≤ 400000000 := by
        have h2 := txtL_le4 (P.take k)
        have h3 := HL.out
        rw [List.length_take] at h2
        omega
      obtain ⟨x, hx⟩ : ∃ x, x = P[k] := ⟨_, rfl⟩
      rw [← hx] at d1 hpt hsn
      have hple := ptN_le hpt
      have hp0 : (0 : Int) ≤ (x : Int) := by omega
      have hp1 : (x : Int) ≤ 1114111 := by omega
      have hkd : decide ((k : Int) < (P.length : Int)) = true := decide_eq_true (by omega)
      have cA := fun v n l hv hn => ar_any (w0 := w) (w := wr) (B := w.heap.size) (v := v) (n := n) (l := l) hpt hv hn hb (Nat.le_refl _)
      have c1 := cA _ _ _ hown (by omega)
      have hlen : Hid ((txtL (P.take (k + 1))).length = (txtL (P.take k)).length + (txt8 x).length) := by show _ = _; rw [hsn.out, List.length_append]
      clear hc h1 hx cA hpt hple hkl
      go_wp2_with fail
      refine c1.mono ?_
      rintro e w1 ⟨v', rfl, hown', hb'⟩
      clear hown c1
      go_wp2
      go_roundw
      case rel =>
        refine ⟨k + 1, by omega, by go_num, ?_, hb'⟩
        rw [hlen.out, hsn.out]
        exact hown'
      case measure => simp [RowKit.intOf]; omega
    · obtain rfl : k = P.length := by omega
      have hkd : decide ((P.length : Int) < (P.length : Int)) = false := by simp
      rw [List.take_length] at hown
      have hconv := str_owned wr _ _ _ _ hown
      go_wp2
      go_ret
      exact ⟨rfl, hb⟩

end Go.Proofs.YtoieapdfpbcfpaaDoor
