/-
  The fixed examples of the statements of layer 18 (awake), and their bound on lists (small).
-/
import Derived.Test.YtbpgkdhdooaigaaDiC
import Derived.Test.YtbpgkdhdooaigaaDiG
import Derived.Test.YtbpgkdhdooaigaaKeepS
import Derived.Deep.RegionHeld3
namespace Go.Proofs.Ytbpgkdhdooaigaa
open Go.RowKit

def sm1 (d : Dv) : Bool := shortB 1000 [bs d.name, bs d.value]
def smallD (l : List Dv) : Bool := decide (l.length ≤ 40) && l.all sm1
theorem sm_drop {l : List Dv} {k : Nat} (h : k < l.length) : (l.drop k).all sm1 = (sm1 l[k] && (l.drop (k + 1)).all sm1) := by
  rw [List.drop_eq_getElem_cons h, List.all_cons]
theorem smallD_sm {l : List Dv} (h : smallD l = true) : l.length ≤ 40 ∧ ∀ d ∈ l, d.name.length ≤ 1000 ∧ d.value.length ≤ 1000 := by
  unfold smallD at h
  rw [Bool.and_eq_true, decide_eq_true_eq, List.all_eq_true] at h
  refine ⟨h.1, fun d hd => ?_⟩
  have := h.2 d hd
  unfold sm1 shortB at this
  simp [bs_size] at this
  omega
theorem SmDv.of_small {l : List Dv} (h : smallD l = true) : SmDv l := fun d hd => by have := (smallD_sm h).2 d hd; omega

set_option maxRecDepth 20000 in
set_option maxHeartbeats 4000000 in
theorem smallD_any (A : Option Addr) (n c B : Nat) (l : List Dv) (w : World) (hA : HasDv w B A n l) (_hn : n ≤ maxLen) (_hnc : n ≤ c) (hB : B ≤ w.heap.size) :
    Calls Try.prog 12 #[.slice A n c] w fun e w' => e = .returned (.bool (smallD l)) ∧ Below w.heap.size w w' := by
  have hl := hA.1
  by_cases hbig : 40 < n
  · have HN : Hid (smallD l = false) := by
      show _ = _
      unfold smallD
      rw [decide_eq_false (by omega : ¬ l.length ≤ 40), Bool.false_and]
    have hd : decide ((40 : Int) < (n : Int)) = true := decide_eq_true (by omega)
    clear hbig hA
    go_enter Try.func12, Try.ntmps12
    go_wp2
    go_ret
    exact ⟨ret_bool (by rw [HN.out]), Below.refl _ _⟩
  · have HN : Hid (smallD l = (l.drop 0).all sm1) := by
      show _ = _
      unfold smallD
      rw [decide_eq_true (by omega : l.length ≤ 40), Bool.true_and, List.drop_zero]
    have hd : decide ((40 : Int) < (n : Int)) = false := decide_eq_false (by omega)
    have hn40 : n ≤ 40 := by omega
    have HA := Lib.hid hA
    have HL := Lib.hid hl
    generalize smallD l = R at *
    clear hbig hA hl
    go_enter Try.func12, Try.ntmps12
    go_wp2
    go_loopw [3] (fun i wr => ∃ k : Nat, k ≤ n ∧ i = .int .i64 k ∧ Hid (Below w.heap.size w wr) ∧ Hid (R = (l.drop k).all sm1)) (fun i _ => n - (intOf i).toNat)
    case atStart => exact ⟨0, Nat.zero_le _, rfl, Lib.hid (Below.refl _ _), HN⟩
    case round =>
      obtain ⟨k, hk, rfl, HW, HR⟩ := hrel
      have hkb : (k : Int) ≤ 40 := by omega
      have i0 : (0 : Int) ≤ (k : Int) := by omega
      by_cases hlt : k < n
      · have i1 : (k : Int) < (n : Int) := by omega
        have hkl : k < l.length := by rw [HL.out]; exact hlt
        obtain ⟨b, off, rfl, hb, g0, g1, g2⟩ := (HA.out.below' HW.out hB).at_ hlt
        have HK := HR.out
        rw [sm_drop hkl, sm1] at HK
        generalize l[k] = d at *
        generalize bs d.name = N at *
        generalize bs d.value = V at *
        have cs := short_any 1000 (some ⟨wr.heap.size, 0, none⟩) 2 2 [N, V] (wr.heap.size + 1) (wr.alloc (.cells #[.string N, .string V] 9)).drew (Has.two wr (.string N) (.string V) 9) (by decide)
        have hbd2 : Below w.heap.size w (wr.alloc (.cells #[.string N, .string V] 9)).drew := (HW.out.alloc HW.out.size _).drew
        generalize shortB 1000 [N, V] = q at *
        have HK := Lib.hid HK
        clear hkl g2
        cases q with
        | false =>
          go_wp2
          go_region_held3 (fun W => W.cell? ⟨b, off + k * 3, none⟩ = some (.string N) ∧ W.cell? ⟨b, off + k * 3 + 1, none⟩ = some (.string V)) (go_keep)
            (first
              | (go_at_call 18; refine cs.mono ?_; rintro e w' ⟨rfl, rfl⟩))
          go_wp2
          go_ret
          exact ⟨ret_bool (by rw [HK.out]; rfl), hbd2⟩
        | true =>
          go_wp2
          go_region_held3 (fun W => W.cell? ⟨b, off + k * 3, none⟩ = some (.string N) ∧ W.cell? ⟨b, off + k * 3 + 1, none⟩ = some (.string V)) (go_keep)
            (first
              | (go_at_call 18; refine cs.mono ?_; rintro e w' ⟨rfl, rfl⟩))
          go_wp2
          go_roundw
          case rel => exact ⟨k + 1, by omega, by go_num, Lib.hid hbd2, by show _ = _; rw [HK.out]; rfl⟩
          case measure => simp [intOf]; omega
      · have HE : Hid (R = true) := by
          show _ = _
          rw [HR.out, List.drop_of_length_le (by rw [HL.out]; omega)]
          rfl
        go_wp2
        go_ret
        exact ⟨ret_bool (by rw [HE.out]), HW.out⟩

end Go.Proofs.Ytbpgkdhdooaigaa
