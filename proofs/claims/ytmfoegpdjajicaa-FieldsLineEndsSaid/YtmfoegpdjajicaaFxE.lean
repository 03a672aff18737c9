/-
  The walk of FieldsLineEnds: it returns true.
-/
import Derived.Test.YtmfoegpdjajicaaFeW
import Derived.Test.YtmfoegpdjajicaaFdK
import Derived.Test.YtmfoegpdjajicaaAppC
import Derived.Test.YtmfoegpdjajicaaStrO
import Derived.Test.YtmfoegpdjajicaaOp8
namespace Go.Proofs.Ytmfoegpdjajicaa
open Go.RowKit

theorem in_wv21 {w : World} {A : Option Addr} {n c : Nat} {PS : List ByteArray} (h : InStr w A n c PS) : ∃ vs : List (List UInt8), n = vs.length ∧ Has w w.heap.size A n (wv vs) ∧ n ≤ maxLen := by
  obtain ⟨h1, h2, h3, _⟩ := h
  have hl : PS.length = n := by simpa using h1.1
  refine ⟨PS.map ls, by simp [hl], ?_, by omega⟩
  have : wv (PS.map ls) = PS.map Value.string := by
    unfold wv
    rw [List.map_map]
    refine List.map_congr_left fun x _ => ?_
    simp [bs_ls]
  rw [this]
  exact h1
/-- A line of the statement's. -/
def GoodL (x : List UInt8) : Prop := x ≠ [] ∧ (∀ b ∈ x, b ≠ 10) ∧ ∀ b ∈ x, b ≠ 13
theorem good_take {L : List (List UInt8)} {k : Nat} (h : k < L.length) (hk : ∀ x ∈ L.take k, GoodL x) (hx : GoodL L[k]) : ∀ x ∈ L.take (k + 1), GoodL x := by
  intro x hm
  rw [List.take_succ_eq_append_getElem h, List.mem_append] at hm
  rcases hm with hm | hm
  · exact hk x hm
  · simp at hm
    subst hm
    exact hx
theorem flat_snoc {L : List (List UInt8)} {k : Nat} (h : k < L.length) (t : List UInt8) : (L.take (k + 1)).flatMap (fun x => x ++ t) = (L.take k).flatMap (fun x => x ++ t) ++ (L[k] ++ t) := by
  rw [List.take_succ_eq_append_getElem h, List.flatMap_append]
  simp

set_option maxRecDepth 100000 in
set_option maxHeartbeats 8000000 in
theorem walkFEnds (A : Option Addr) (n cap : Nat) (A' : Option Addr) (n' cap' : Nat) (w : World) (hI : ∃ PS, InStr w A n cap PS) (hI' : ∃ r, Arg8 w A' n' cap' r) :
    Calls Try.prog 7 #[.slice A n cap, .slice A' n' cap'] w (Yes w) := by
  obtain ⟨PS, hI⟩ := hI
  obtain ⟨L, rfl, hH, hlm⟩ := in_wv21 hI
  obtain ⟨r, hR, hrc, hrm, hrn⟩ := hI'
  have hrl : r.length = n' := by have := hR.1; simpa using this
  subst hrl
  clear hI
  have cw := awake21_any
  by_cases h40 : 40 < L.length
  · have hd : decide ((40 : Int) < (L.length : Int)) = true := decide_eq_true (by omega)
    clear hH hR
    go_enter Try.func7, Try.ntmps7
    go_wp2_with fail
    refine (cw _).mono ?_
    rintro e w1 ⟨rfl, hb⟩
    go_wp2
    go_ret
    exact ⟨rfl, hb⟩
  · have hd : decide ((40 : Int) < (L.length : Int)) = false := decide_eq_false (by omega)
    by_cases hz : 1000 < r.length
    · have hd2 : decide ((1000 : Int) < (r.length : Int)) = true := decide_eq_true (by omega)
      clear hH hR
      go_enter Try.func7, Try.ntmps7
      go_wp2_with fail
      refine (cw _).mono ?_
      rintro e w1 ⟨rfl, hb⟩
      go_wp2
      go_ret
      exact ⟨rfl, hb⟩
    · have hd2 : decide ((1000 : Int) < (r.length : Int)) = false := decide_eq_false (by omega)
      have HH := Lib.hid hH
      have HRR := Lib.hid hR
      have hL40 : L.length ≤ 40 := by omega
      have hr1000 : r.length ≤ 1000 := by omega
      clear hH hR h40 hz
      go_enter Try.func7, Try.ntmps7
      go_wp2
      go_loopw [5, 6, 7] (fun a b i wr => ∃ (k m : Nat) (Ta Tb : ByteArray), k ≤ L.length ∧ i = .int .i64 k ∧ a = .string Ta ∧ b = .string Tb ∧ Hid (ls Ta = (L.take k).flatMap (fun x => x ++ [10])) ∧ Hid (ls Tb = (L.take k).flatMap (fun x => x ++ [13, 10])) ∧ Ta.size ≤ k * 101 ∧ Tb.size ≤ k * 102 ∧ Hid (∀ x ∈ L.take k, GoodL x) ∧ wr = w.drewN m) (fun _ _ i _ => L.length - (intOf i).toNat)
      case atStart => exact ⟨0, 0, ⟨#[]⟩, ⟨#[]⟩, Nat.zero_le _, rfl, rfl, rfl, Lib.hid rfl, Lib.hid rfl, Nat.zero_le _, Nat.zero_le _, Lib.hid (fun x hx => by simp at hx), rfl⟩
      case round =>
        obtain ⟨k, m, Ta, Tb, hk, rfl, rfl, rfl, HA, HB, hsa, hsb, HG, rfl⟩ := hrel
        by_cases hlt : k < L.length
        · have hdl : decide ((k : Int) < (L.length : Int)) = true := decide_eq_true (by omega)
          have hHw : Has (w.drewN m) w.heap.size A L.length (wv L) := HH.out
          obtain ⟨b, off, rfl, hc⟩ := str_cell hHw k hlt
          rw [List.getD_eq_getElem?_getD, List.getElem?_eq_getElem hlt, Option.getD_some] at hc
          have hfa := flat_snoc hlt [10]
          have hfb := flat_snoc hlt [13, 10]
          obtain ⟨X, hX⟩ : ∃ X, X = bs L[k] := ⟨_, rfl⟩
          have hXl : ls X = L[k] := by rw [hX, ls_bs]
          rw [← hX] at hc
          rw [← hXl] at hfa hfb
          have hgood := good_take hlt HG.out
          rw [← hXl] at hgood
          have hq0 := nil_toList X
          have hk101 : k * 101 ≤ 40 * 101 := Nat.mul_le_mul_right _ (by omega)
          have hk102 : k * 102 ≤ 40 * 102 := Nat.mul_le_mul_right _ (by omega)
          have HFA := Lib.hid hfa
          have HFB := Lib.hid hfb
          have HGD := Lib.hid hgood
          clear hHw hX hXl hfa hfb hgood
          by_cases hx0 : X.size = 0
          · rw [decide_eq_true hx0] at hq0
            go_wp2_with fail
            refine (cw _).mono ?_
            rintro e w1 ⟨rfl, hb⟩
            have hB := (below_drewN (Below.refl w.heap.size w) m).trans hb
            go_wp2
            go_ret
            exact ⟨rfl, hB⟩
          · rw [decide_eq_false hx0] at hq0
            by_cases hx100 : 100 < X.size
            · have hdx : decide ((100 : Int) < (X.size : Int)) = true := decide_eq_true (by omega)
              go_wp2_with fail
              refine (cw _).mono ?_
              rintro e w1 ⟨rfl, hb⟩
              have hB := (below_drewN (Below.refl w.heap.size w) m).trans hb
              go_wp2
              go_ret
              exact ⟨rfl, hB⟩
            · have hdx : decide ((100 : Int) < (X.size : Int)) = false := decide_eq_false (by omega)
              go_wp2
              go_loop [8] (fun t => ∃ j : Nat, j ≤ X.size ∧ t = .int .i64 j ∧ Hid (∀ c ∈ (ls X).take j, c ≠ 10 ∧ c ≠ 13)) (fun t => X.size - (intOf t).toNat)
              case atStart => exact ⟨0, Nat.zero_le _, rfl, Lib.hid (fun x hx => by simp at hx)⟩
              case round =>
                obtain ⟨j, hj, rfl, HJ⟩ := hrel
                by_cases hjl : j < X.size
                · have hdj : decide ((j : Int) < (X.size : Int)) = true := decide_eq_true (by omega)
                  by_cases h10 : X[j] = 10
                  · have e10 : ((X[j].toNat : Int) == 10) = true := by rw [h10]; rfl
                    clear h10
                    go_wp2_with fail
                    refine (cw _).mono ?_
                    rintro e w1 ⟨rfl, hb⟩
                    have hB := (below_drewN (Below.refl w.heap.size w) m).trans hb
                    go_wp2
                    go_ret
                    exact ⟨rfl, hB⟩
                  · have e10 : ((X[j].toNat : Int) == 10) = false := by
                      rw [beq_eq_false_iff_ne]
                      exact fun e => h10 (UInt8.toNat_inj.1 (by show X[j].toNat = 10; omega))
                    by_cases h13 : X[j] = 13
                    · have e13 : ((X[j].toNat : Int) == 13) = true := by rw [h13]; rfl
                      clear h10 h13
                      go_wp2_with fail
                      refine (cw _).mono ?_
                      rintro e w1 ⟨rfl, hb⟩
                      have hB := (below_drewN (Below.refl w.heap.size w) m).trans hb
                      go_wp2
                      go_ret
                      exact ⟨rfl, hB⟩
                    · have e13 : ((X[j].toNat : Int) == 13) = false := by
                        rw [beq_eq_false_iff_ne]
                        exact fun e => h13 (UInt8.toNat_inj.1 (by show X[j].toNat = 13; omega))
                      have HJ2 : Hid (∀ c ∈ (ls X).take (j + 1), c ≠ 10 ∧ c ≠ 13) := Lib.hid (by
                        intro c hc
                        have hjl' : j < (ls X).length := by rw [ls_length]; exact hjl
                        have hx := ls_get X j hjl
                        rw [List.getElem?_eq_getElem hjl', Option.some.injEq] at hx
                        rw [List.take_succ_eq_append_getElem hjl', List.mem_append] at hc
                        rcases hc with hc | hc
                        · exact HJ.out c hc
                        · simp at hc
                          rw [hc, hx]
                          exact ⟨h10, h13⟩)
                      clear h10 h13
                      go_wp2
                      go_round
                      case rel => exact ⟨j + 1, by omega, by go_num, HJ2⟩
                      case measure => simp [intOf]; omega
                · obtain rfl : j = X.size := by omega
                  have hdj : decide ((X.size : Int) < (X.size : Int)) = false := decide_eq_false (by omega)
                  have HG2 : Hid (∀ x ∈ L.take (k + 1), GoodL x) := Lib.hid (by
                    have hj := HJ.out
                    rw [← ls_length, List.take_length] at hj
                    exact HGD.out ⟨fun e => hx0 (by rw [← ls_length, e]; rfl), fun c hc => (hj c hc).1, fun c hc => (hj c hc).2⟩)
                  have HA2 : Hid (ls (Ta ++ X ++ ⟨#[10]⟩) = (L.take (k + 1)).flatMap (fun x => x ++ [10])) := Lib.hid (by
                    rw [HFA.out, ls_append, ls_append, HA.out]
                    simp [show ls ⟨#[10]⟩ = [10] from rfl])
                  have HB2 : Hid (ls (Tb ++ X ++ ⟨#[13, 10]⟩) = (L.take (k + 1)).flatMap (fun x => x ++ [13, 10])) := Lib.hid (by
                    rw [HFB.out, ls_append, ls_append, HB.out]
                    simp [show ls ⟨#[13, 10]⟩ = [13, 10] from rfl])
                  have hsa2 : (Ta ++ X ++ ⟨#[10]⟩ : ByteArray).size ≤ (k + 1) * 101 := by
                    rw [← ls_length, ls_append, ls_append, List.length_append, List.length_append, ls_length, ls_length, show (ls ⟨#[10]⟩).length = 1 from rfl]
                    omega
                  have hsb2 : (Tb ++ X ++ ⟨#[13, 10]⟩ : ByteArray).size ≤ (k + 1) * 102 := by
                    rw [← ls_length, ls_append, ls_append, List.length_append, List.length_append, ls_length, ls_length, show (ls ⟨#[13, 10]⟩).length = 2 from rfl]
                    omega
                  have HSA := Lib.hid hsa2
                  have HSB := Lib.hid hsb2
                  have hxs : X.size ≤ 100 := by omega
                  have hcq : w.cell? ⟨b, off + k, none⟩ = some (.string X) := hc
                  clear hsa2 hsb2 hx100 hx0 hdx
                  go_wp2
                  go_quiet (fail)
                  go_wp2
                  go_roundw
                  case rel => exact ⟨k + 1, _, _, _, by omega, by go_num, rfl, rfl, HA2, HB2, HSA.out, HSB.out, HG2, rfl⟩
                  case measure => simp [intOf]; omega
        · obtain rfl : k = L.length := by omega
          have hdl : decide ((L.length : Int) < (L.length : Int)) = false := decide_eq_false (by omega)
          have ha := HA.out
          have hb := HB.out
          have hg := HG.out
          rw [List.take_length] at ha hb hg
          have hk101 : L.length * 101 ≤ 40 * 101 := Nat.mul_le_mul_right _ hL40
          have hk102 : L.length * 102 ≤ 40 * 102 := Nat.mul_le_mul_right _ hL40
          have hpar := line_ends (L := L) hg r (by rw [← hb, ls_length]; omega) (by rw [← ha, List.length_append, ls_length, List.length_cons, List.length_cons]; omega)
          rw [← ha, ← hb] at hpar
          obtain ⟨hp1, hp2⟩ := hpar
          have hC : ls (Ta ++ ⟨#[13, 10]⟩) ++ r = ls Ta ++ 13 :: 10 :: r := by rw [ls_append]; simp [show ls ⟨#[13, 10]⟩ = [13, 10] from rfl]
          rw [← hC] at hp2
          have hsz3 : (Ta ++ ⟨#[13, 10]⟩ : ByteArray).size = Ta.size + 2 := by rw [← ls_length, ls_append, List.length_append, ls_length]; rfl
          have hlenR := fpar_len (ls Ta)
          have c1 := fun A1 k1 W h => fParse_any A1 k1 (ls Ta) W (by rw [ls_length]; omega) h
          have c2 := fun A1 k1 W h => fParse_any A1 k1 (ls Tb) W (by rw [ls_length]; omega) h
          have c3 := fun A1 k1 W h => fParse_any A1 k1 (ls (Ta ++ ⟨#[13, 10]⟩) ++ r) W (by rw [List.length_append, ls_length, hsz3]; omega) h
          rw [← hp1] at c2
          rw [← hp2, List.length_append, ls_length, hsz3] at c3
          rw [ls_length] at c1 c2
          have e1 : ((fpar (ls Ta)).2 == (fpar (ls Ta)).2) = true := by simp
          obtain ⟨k1, w1, hcv1, hb1, hl1, hk1, hh1, _⟩ := to_bytes2 (w.drewN m) Ta
          rw [ls_length] at hh1
          clear HA HB HG ha hb hg hp1 hp2 hC hk101 hk102
          generalize fpar (ls Ta) = R at *
          obtain ⟨M, x⟩ := R
          dsimp only at e1 hlenR c1 c2 c3
          have cf := fun A1 A2 k1 k2 B W h1 h2 => fds_same M A1 A2 k1 k2 B W h1 h2 (by omega)
          have hB1 : Below w.heap.size w w1 := (below_drewN (Below.refl w.heap.size w) m).trans hb1
          go_wp2_with fail
          refine (c1 _ k1 w1 hh1).mono ?_
          rintro e w2 ⟨A2, k2, rfl, hk2, _, hf2, hb2⟩
          have hB2 := hB1.trans (hb2.mono hB1.size)
          obtain ⟨k3, w3, hcv3, hb3, hl3, hk3, hh3, _⟩ := to_bytes2 w2 Tb
          rw [ls_length] at hh3
          have hB3 := hB2.trans (hb3.mono hB2.size)
          have hf3 := (hf2.below hb3).more hb3.size
          clear c1 hcv1 hb1 hl1 hh1 hb2 hf2
          go_wp2_with fail
          refine (c2 _ k3 w3 hh3).mono ?_
          rintro e w4 ⟨A4, k4, rfl, hk4, _, hg4, hb4⟩
          have hB4 := hB3.trans (hb4.mono hB3.size)
          have hf4 := (hf3.below hb4).more hb4.size
          obtain ⟨k5, w5, hcv5, hb5, hl5, hk5, hh5, hsp5⟩ := to_bytes2 w4 (Ta ++ ⟨#[13, 10]⟩)
          rw [ls_length, hsz3] at hh5
          rw [hsz3] at hcv5 hk5
          have hB5 := hB4.trans (hb5.mono hB4.size)
          have hf5 := (hf4.below hb5).more hb5.size
          have hg5 := (hg4.below hb5).more hb5.size
          have hR5 : Has w5 w.heap.size A' r.length (r.map bv) := HRR.out.below hB5
          have hf4' := hf4
          have hg4' := hg4
          clear c2 hcv3 hb3 hl3 hh3 hb4 hf3 hf4 hg4
          go_wp2_with (at_builtin; refine wpList_app_conv (w0 := w4) _ rfl _ _ rfl w4.heap.size _ k5 (Ta.size + 2) (ls (Ta ++ ⟨#[13, 10]⟩)) (by exact rfl) hh5 hk5 hsp5 hl5 A' r cap' _ (by exact rfl) hrn hR5 (by omega) hb5 (Nat.le_refl _) (Nat.le_refl _) ?_; intro A6 k6 w6 hh6 hb6)
          have hB6 := hB4.trans (hb6.mono hB4.size)
          have hf6 := (hf4'.below hb6).more hb6.size
          have hg6 := (hg4'.below hb6).more hb6.size
          clear hcv5 hb5 hl5 hh5 hsp5 hk5 hf5 hg5 hR5 hB5 hb6
          refine (c3 A6 k6 w6 hh6).mono ?_
          rintro e w7 ⟨A7, k7, rfl, hk7, _, hh7, hb7⟩
          have hB7 := hB6.trans (hb7.mono hB6.size)
          have hf7 := (hf6.below hb7).more hb7.size
          have hg7 := (hg6.below hb7).more hb7.size
          clear c3 hb7 hf6 hg6 hh6
          go_wp2_with fail
          refine (cf A2 A4 k2 k4 _ w7 hf7 hg7).mono ?_
          rintro e w8 ⟨rfl, hb8⟩
          have hB8 := hB7.trans (hb8.mono hB7.size)
          have hf8 := (hf7.below hb8).more hb8.size
          have hh8 := (hh7.below hb8).more hb8.size
          clear hb8 hf7 hg7 hh7
          go_wp2_with fail
          refine (cf A2 A7 k2 k7 _ w8 hf8 hh8).mono ?_
          rintro e w9 ⟨rfl, hb9⟩
          have hB9 := hB8.trans (hb9.mono hB8.size)
          clear hb9 hf8 hh8
          go_wp2_with fail
          refine (cw _).mono ?_
          rintro e w10 ⟨rfl, hb10⟩
          have hB10 := hB9.trans (hb10.mono hB9.size)
          go_wp2
          go_ret
          exact ⟨rfl, hB10⟩

end Go.Proofs.Ytmfoegpdjajicaa
