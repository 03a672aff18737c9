/-
  The program's validName and validValue of package fields.
-/
import Derived.Test.YtmfoegpdjajicaaFeC
import Derived.Test.YtmfoegpdjajicaaFdR
import Derived.Test.YtmfoegpdjajicaaSecB
namespace Go.Proofs.Ytmfoegpdjajicaa
open Go.RowKit

theorem cell_lt' {w : World} {b j : Nat} {v : Value} (h : w.cell? ⟨b, j, none⟩ = some v) : b < w.heap.size := by
  unfold World.cell? at h
  split at h
  · rename_i hh
    exact (Array.getElem?_eq_some_iff.1 hh).1
  · cases h
theorem goL_len : ∀ (L : List (List UInt8 × Bool)) (acc : List Fv), acc.length ≤ 100 → (goL L acc).1.length ≤ 100
  | [], acc, h => h
  | (x, q) :: r, acc, h => by
    rw [goL]
    by_cases h1 : q = false
    · rw [if_pos h1]; simp
    · rw [if_neg h1]
      by_cases h2 : x = []
      · rw [if_pos h2]; exact h
      · rw [if_neg h2]
        by_cases h3 : acc.length = 100
        · rw [if_pos h3]; simp
        · rw [if_neg h3]
          cases fieldL x with
          | none => simp
          | some y => exact goL_len r (acc ++ [y]) (by rw [List.length_append, List.length_singleton]; omega)
theorem fpar_len (b : List UInt8) : (fpar b).1.length ≤ 100 := by
  rw [fpar_lines]
  split
  · simp
  · exact goL_len _ _ (by simp)
/-- A field's name. -/
def okN (n : List UInt8) : Bool := !n.isEmpty && n.all tokU && decide (lowL n = n)
theorem okF_split (x : Fv) : okF x = (okN x.name && okV x.value) := by
  unfold okF okN okV
  simp only [Bool.and_assoc]
theorem low_same (s : ByteArray) : ((lowS s).toList == s.toList) = decide (lowL (ls s) = ls s) := by
  rw [toList_ls, toList_ls, lowS, ls_bs, Bool.eq_iff_iff]
  simp

set_option maxHeartbeats 1000000 in
theorem validName_any (s : ByteArray) (hs : s.size ≤ 1000000000) (w : World) : Calls Try.prog 30 #[.string s] w fun e w' => e = .returned (.bool (okN (ls s))) ∧ Below w.heap.size w w' := by
  have ct := isTk_any s hs
  have cl := fun W => lower_any s W hs
  have he := low_same s
  have hk : okN (ls s) = (isTk s && decide (lowL (ls s) = ls s)) := rfl
  rw [hk]
  clear hk
  generalize decide (lowL (ls s) = ls s) = q at *
  generalize lowS s = L at *
  generalize isTk s = t at *
  cases t with
  | false =>
    go_enter Try.func30, Try.ntmps30
    go_wp2_with fail
    refine (ct _).mono ?_
    rintro e w1 ⟨rfl, rfl⟩
    go_wp2
    go_ret
    exact ⟨rfl, Below.refl _ _⟩
  | true =>
    go_enter Try.func30, Try.ntmps30
    go_wp2_with fail
    refine (ct _).mono ?_
    rintro e w1 ⟨rfl, rfl⟩
    go_wp2_with fail
    refine (cl _).mono ?_
    rintro e w2 ⟨rfl, hb⟩
    go_wp2
    go_ret
    exact ⟨rfl, hb⟩

/-- A slice of the bytes of a text, as an argument. -/
theorem has_text {w : World} {b : Nat} {s : ByteArray} (h : ∀ k (h : k < s.size), w.cell? ⟨b, k, none⟩ = some (.int .u8 (s[k].toNat : Int))) {B : Nat} (hB : b < B) : Has w B (some ⟨b, 0, none⟩) (ls s).length ((ls s).map bv) := by
  refine ⟨by simp, fun hn => ⟨b, 0, rfl, hB, fun j hj => ?_⟩⟩
  rw [List.length_map] at hj
  have hj' : j < s.size := by rwa [ls_length] at hj
  have hx := ls_get s j hj'
  rw [List.getElem?_eq_getElem hj, Option.some.injEq] at hx
  rw [Nat.zero_add, h j hj', List.getElem_map, hx]
  rfl
theorem firstIs_nil (v : List UInt8) : firstIs [] v = false := rfl
theorem firstIs_cons (y : Fv) (r : List Fv) (v : List UInt8) : firstIs (y :: r) v = decide (y.value = v) := rfl

set_option maxHeartbeats 2000000 in
theorem validValue_any (s : ByteArray) (hs : s.size ≤ 16000) (w : World) : Calls Try.prog 31 #[.string s] w fun e w' => e = .returned (.bool (okV (ls s))) ∧ Below w.heap.size w w' := by
  obtain ⟨T, hT⟩ : ∃ T, T = (⟨#[120, 58]⟩ : ByteArray) ++ s ++ ⟨#[10]⟩ := ⟨_, rfl⟩
  have hTl : ls T = 120 :: 58 :: (ls s ++ [10]) := by
    rw [hT, ls_append, ls_append]
    rfl
  have hTs : T.size = 2 + s.size + 1 := by
    have := congrArg List.length hTl
    rw [ls_length, List.length_cons, List.length_cons, List.length_append, ls_length] at this
    simp at this
    omega
  obtain ⟨c, w1, hconv, hb1, hc, hcells⟩ := to_bytes w T
  have hv := back_value (v := ls s) (by rw [ls_length]; exact hs)
  rw [← hTl] at hv
  have hz1 : w.heap.size < w1.heap.size := by
    have := hcells 0 (by omega)
    exact cell_lt' this
  have hh := has_text (B := w1.heap.size) hcells hz1
  have cp := fParse_any _ c (ls T) w1 (by rw [ls_length]; omega) hh
  rw [ls_length, hTs] at cp
  rw [hTs] at hconv
  have hk : okV (ls s) = firstIs (fpar (ls T)).1 (ls s) := by rw [hv]; rfl
  rw [hk]
  have hlen := fpar_len (ls T)
  clear hv hk hcells hh hTl hTs hz1
  generalize fpar (ls T) = R at *
  go_enter Try.func31, Try.ntmps31
  rw [hT] at hconv
  go_wp2_with fail
  refine cp.mono ?_
  rintro e w2 ⟨A, k, rfl, hk1, hk0, hH, hb2⟩
  have hb := hb1.trans (hb2.mono hb1.size)
  obtain ⟨l, err⟩ := R
  dsimp only at hH hk1 hlen ⊢
  cases l with
  | nil =>
    go_wp2
    go_ret
    exact ⟨rfl, hb⟩
  | cons y r =>
    obtain ⟨b, off, rfl, _, c0, c1⟩ := hH.at_ (k := 0) (by simp)
    simp only [List.getElem_cons_zero, Nat.zero_mul, Nat.add_zero] at c1
    clear c0 hH
    obtain ⟨m, hm⟩ : ∃ m, m = (y :: r).length := ⟨_, rfl⟩
    have hm0 : 0 < m := by rw [hm]; simp
    rw [← hm] at hk1 hlen ⊢
    clear hm
    have hd : decide ((0 : Int) < (m : Int)) = true := decide_eq_true (by omega)
    obtain ⟨q, hq⟩ : ∃ q, q = firstIs (y :: r) (ls s) := ⟨_, rfl⟩
    have he : ((bs y.value).toList == s.toList) = q := by
      rw [hq, firstIs_cons, toList_ls, toList_ls, ls_bs, Bool.eq_iff_iff]
      simp
    have HQ := Lib.hid hq
    clear hq
    obtain ⟨V, hV⟩ : ∃ V, V = bs y.value := ⟨_, rfl⟩
    rw [← hV] at c1 he
    clear hV
    go_wp2
    go_ret
    exact ⟨ret_bool HQ.out, hb⟩

end Go.Proofs.Ytmfoegpdjajicaa
