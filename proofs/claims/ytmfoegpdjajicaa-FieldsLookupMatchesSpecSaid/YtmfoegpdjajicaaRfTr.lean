/-
  Contract of Trim of the reference of layer 1.
-/
import Derived.Test.YtmfoegpdjajicaaTyB
import Derived.Test.YtmfoegpdjajicaaAsBr
import Derived.BigQuiet
import Derived.Deep.QuietTactic
import Derived.WalkSmall
namespace Go.Proofs.Ytmfoegpdjajicaa
open Go.RowKit

def strSize : Value → Nat | .string s => s.size | _ => 0
theorem all_append_one (p : UInt8 → Bool) (a : List UInt8) (x : UInt8) (ha : a.all p = true) (hx : p x = true) : (a ++ [x]).all p = true := by
  rw [List.all_append, ha]; simp [hx]
theorem str_cut_front (t : ByteArray) (h : 0 < t.size) : ls t = t[0] :: ls (t.extract 1 t.size) := by
  rw [ls_extract, ← ls_length, List.take_of_length_le (by simp)]
  have := drop_ls_cons t 0 h
  simpa using this
theorem str_cut_end (u : ByteArray) (q : Nat) (hq : u.size = q + 1) (hb : blankU (u[q]'(by omega)) = true) : ls u = ls (u.extract 0 q) ++ [u[q]'(by omega)] ∧ blankU (u[q]'(by omega)) = true := by
  refine ⟨?_, hb⟩
  have := take_ls_succ u q (by omega)
  rw [← hq, take_ls_all] at this
  rw [ls_extract]
  simpa using this
theorem trim_end {q : Nat} (s t u : ByteArray) (pre post : List UInt8) (h1 : ls s = pre ++ ls t) (h2 : ls t = ls u ++ post) (hp : pre.all blankU = true) (hq : post.all blankU = true)
    (hx : t.size = 0 ∨ ∃ h : 0 < t.size, blankU t[0] = false) (hy : u.size = 0 ∨ ∃ (h : q < u.size), u.size = q + 1 ∧ blankU u[q] = false) : u = trimS s := by
  apply ls_inj
  unfold trimS
  rw [ls_bs]
  refine (trim_of (ls s) pre (ls u) post (by rw [h1, h2, List.append_assoc]) hp hq ?_ ?_).symm
  · rcases Nat.eq_zero_or_pos u.size with h0 | h0
    · left; exact List.eq_nil_of_length_eq_zero (by rw [ls_length]; exact h0)
    · right
      rcases hx with hx | ⟨hx, hb⟩
      · have := congrArg List.length h2
        rw [List.length_append, ls_length, ls_length] at this
        omega
      · have e := str_cut_front u h0
        have e2 := str_cut_front t hx
        rw [e2, e] at h2
        have : t[0] = u[0] := by simpa using (List.cons.inj h2).1
        exact ⟨u[0], _, e, by rw [← this]; exact hb⟩
  · rcases hy with h0 | ⟨h, hq1, hb⟩
    · left; exact List.eq_nil_of_length_eq_zero (by rw [ls_length]; exact h0)
    · right
      have := take_ls_succ u q (by omega)
      rw [← hq1, take_ls_all] at this
      exact ⟨u[q], _, this, hb⟩
set_option maxHeartbeats 1000000 in
theorem refTrim_any (s : ByteArray) (w : World) (hs : s.size ≤ 1000000000) :
    Calls Try.prog 28 #[.string s] w fun e w' => e = .returned (.string (trimS s)) ∧ w = w' := by
  go_enter Try.func28, Try.ntmps28
  go_wp2
  go_loop [0] (fun v => ∃ (t : ByteArray) (pre : List UInt8), v = .string t ∧ ls s = pre ++ ls t ∧ pre.all blankU = true ∧ t.size ≤ 1000000000) (fun v => strSize v)
  case atStart => exact ⟨s, [], rfl, rfl, rfl, hs⟩
  case round =>
    obtain ⟨t, pre, rfl, hsp, hpre, hts⟩ := hrel
    have HS := Lib.hid hsp
    have HP := Lib.hid hpre
    clear hsp hpre
    by_cases h0 : 0 < t.size
    · by_cases hb : blankU t[0] = true
      · have hb' : blankB (t[0].toNat : Int) = true := hb
        have HB := Lib.hid hb
        clear hb
        go_wp2_with (go_at_call 46; refine (refIsBlank_any _ _).mono ?_; rintro e w' ⟨rfl, rfl⟩)
        go_round
        case rel => exact ⟨_, pre ++ [t[0]], rfl, by rw [HS.out, str_cut_front t h0]; simp, all_append_one _ _ _ HP.out HB.out, by simp; omega⟩
        case measure => simp [strSize]; omega
      · have hb' : blankB (t[0].toNat : Int) = false := by simpa [blankU] using hb
        have HX : Hid (t.size = 0 ∨ ∃ h : 0 < t.size, blankU t[0] = false) := .inr ⟨h0, by simpa using hb⟩
        clear hb
        go_wp2_with (go_at_call 46; refine (refIsBlank_any _ _).mono ?_; rintro e w' ⟨rfl, rfl⟩)
        go_loop [0] (fun v => ∃ (u : ByteArray) (post : List UInt8), v = .string u ∧ ls t = ls u ++ post ∧ post.all blankU = true ∧ u.size ≤ 1000000000) (fun v => strSize v)
        case atStart => exact ⟨t, [], rfl, by simp, rfl, hts⟩
        case round =>
          obtain ⟨u, post, rfl, hup, hpost, hus⟩ := hrel
          have HU := Lib.hid hup
          have HQ := Lib.hid hpost
          clear hup hpost
          by_cases hu0 : 0 < u.size
          · obtain ⟨q, hq⟩ : ∃ q, u.size = q + 1 := ⟨u.size - 1, by omega⟩
            have hqu : q < u.size := by omega
            by_cases hbu : blankU u[q] = true
            · have hbu' : blankB (u[q].toNat : Int) = true := hbu
              have HB := Lib.hid (str_cut_end u q hq hbu)
              clear hbu
              go_wp2_with (go_at_call 46; refine (refIsBlank_any _ _).mono ?_; rintro e w' ⟨rfl, rfl⟩)
              go_round
              case rel => exact ⟨_, u[q] :: post, rfl, by rw [HU.out, HB.out.1]; simp, by rw [List.all_cons, HB.out.2, HQ.out]; rfl, by simp; omega⟩
              case measure => simp [strSize]; omega
            · have hbu' : blankB (u[q].toNat : Int) = false := by simpa [blankU] using hbu
              have HF := Lib.hid (trim_end s t u pre post HS.out HU.out HP.out HQ.out HX.out (.inr ⟨hqu, hq, by simpa using hbu⟩))
              clear hbu
              go_wp2_with (go_at_call 46; refine (refIsBlank_any _ _).mono ?_; rintro e w' ⟨rfl, rfl⟩)
              go_ret
              exact ⟨ret_str HF.out, rfl⟩
          · have HF := Lib.hid (trim_end (q := 0) s t u pre post HS.out HU.out HP.out HQ.out HX.out (.inl (by omega)))
            have hu1 : u.size = 0 := by omega
            go_wp2
            go_ret
            exact ⟨ret_str HF.out, rfl⟩
    · have HX : Hid (t.size = 0 ∨ ∃ h : 0 < t.size, blankU t[0] = false) := .inl (by omega)
      go_wp2
      go_loop [0] (fun v => ∃ (u : ByteArray) (post : List UInt8), v = .string u ∧ ls t = ls u ++ post ∧ post.all blankU = true ∧ u.size ≤ 1000000000) (fun v => strSize v)
      case atStart => exact ⟨t, [], rfl, by simp, rfl, hts⟩
      case round =>
        obtain ⟨u, post, rfl, hup, hpost, hus⟩ := hrel
        have HU := Lib.hid hup
        have HQ := Lib.hid hpost
        clear hup hpost
        by_cases hu0 : 0 < u.size
        · obtain ⟨q, hq⟩ : ∃ q, u.size = q + 1 := ⟨u.size - 1, by omega⟩
          have hqu : q < u.size := by omega
          by_cases hbu : blankU u[q] = true
          · have hbu' : blankB (u[q].toNat : Int) = true := hbu
            have HB := Lib.hid (str_cut_end u q hq hbu)
            clear hbu
            go_wp2_with (go_at_call 46; refine (refIsBlank_any _ _).mono ?_; rintro e w' ⟨rfl, rfl⟩)
            go_round
            case rel => exact ⟨_, u[q] :: post, rfl, by rw [HU.out, HB.out.1]; simp, by rw [List.all_cons, HB.out.2, HQ.out]; rfl, by simp; omega⟩
            case measure => simp [strSize]; omega
          · have hbu' : blankB (u[q].toNat : Int) = false := by simpa [blankU] using hbu
            have HF := Lib.hid (trim_end s t u pre post HS.out HU.out HP.out HQ.out HX.out (.inr ⟨hqu, hq, by simpa using hbu⟩))
            clear hbu
            go_wp2_with (go_at_call 46; refine (refIsBlank_any _ _).mono ?_; rintro e w' ⟨rfl, rfl⟩)
            go_ret
            exact ⟨ret_str HF.out, rfl⟩
        · have HF := Lib.hid (trim_end (q := 0) s t u pre post HS.out HU.out HP.out HQ.out HX.out (.inl (by omega)))
          have hu1 : u.size = 0 := by omega
          go_wp2
          go_ret
          exact ⟨ret_str HF.out, rfl⟩

end Go.Proofs.Ytmfoegpdjajicaa
