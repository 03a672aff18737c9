/-
  Contracts of hex, double and hexText of the reference of layer 11 (written by tools/gen-I61.py).
-/
import Derived.Test.YthihfhmclmmadaaDoorI6P
import Derived.Test.YthihfhmclmmadaaDoorTyB
import Derived.Test.YthihfhmclmmadaaDoorStC
import Derived.BigQuiet
namespace Go.Proofs.YthihfhmclmmadaaDoor
open Go.RowKit

def hV (l : List UInt8) : Int := ((hexL l).getD 0 : Nat)
def hK (l : List UInt8) : Bool := (hexL l).isSome
theorem hex_yes {l : List UInt8} (h1 : 1 ≤ l.length) (h2 : l.length ≤ 4) (h : l.all (fun c => decide (digV c < 16)) = true) : hV l = (valB 16 0 l : Nat) ∧ hK l = true := by
  unfold hV hK hexL
  rw [if_pos ⟨⟨h1, h2⟩, h⟩]
  exact ⟨rfl, rfl⟩
theorem hex_no {l : List UInt8} (h : ¬ ((1 ≤ l.length ∧ l.length ≤ 4) ∧ l.all (fun c => decide (digV c < 16)) = true)) : hV l = 0 ∧ hK l = false := by
  unfold hV hK hexL
  rw [if_neg h]
  exact ⟨rfl, rfl⟩
theorem hexval_take (t : ByteArray) (k : Nat) (h : k < t.size) : valB 16 0 ((ls t).take (k + 1)) = valB 16 0 ((ls t).take k) * 16 + digV t[k] := by
  rw [take_ls_succ t k h, valB_append]; rfl
theorem hex_all_no (t : ByteArray) (k : Nat) (h : k < t.size) (hp : ¬ digV t[k] < 16) : ¬ (ls t).all (fun c => decide (digV c < 16)) = true := by
  rw [List.all_eq_true]
  intro hall
  have hk : k < (ls t).length := by rw [ls_length]; exact h
  have hm := List.getElem_mem hk
  rw [ls_getE t k h] at hm
  exact hp (of_decide_eq_true (hall _ hm))
theorem hexval_lt (l : List UInt8) : ∀ a k, a < 16 ^ k → l.all (fun c => decide (digV c < 16)) = true → valB 16 a l < 16 ^ (k + l.length) := by
  induction l with
  | nil => intro a k h _; exact h
  | cons c r ih =>
    intro a k h hall
    simp only [List.all_cons, Bool.and_eq_true, decide_eq_true_eq] at hall
    rw [valB]
    have := ih (a * 16 + digV c) (k + 1) (by rw [Nat.pow_succ]; omega) hall.2
    rw [List.length_cons, show k + (r.length + 1) = k + 1 + r.length by omega]
    exact this
theorem hV_range (l : List UInt8) : 0 ≤ hV l ∧ hV l < 65536 := by
  unfold hV hexL
  split
  · rename_i h
    have := hexval_lt l 0 0 (by decide) h.2
    have h4 : (16 : Nat) ^ (0 + l.length) ≤ 16 ^ 4 := Nat.pow_le_pow_right (by decide) (by omega)
    have e : (16 : Nat) ^ 4 = 65536 := by decide
    simp only [Option.getD_some]
    omega
  · exact ⟨by simp, by simp⟩

set_option maxHeartbeats 2000000 in
theorem refHex_any (s : ByteArray) (w : World) (hs : s.size ≤ 1000000000) :
    Calls Tryd.prog 33 #[.string s] w fun e w' => e = .returned (.tuple #[.int .u16 (hV (ls s)), .bool (hK (ls s))]) ∧ w = w' := by
  by_cases h0 : (s.size : Int) < 1
  · have hd : decide ((s.size : Int) < 1) = true := decide_eq_true h0
    have HN := Lib.hid (hex_no (l := ls s) (fun h => by have := h.1.1; rw [ls_length] at this; omega))
    go_enter Tryd.func33, Tryd.ntmps33
    go_wp2
    go_ret2
    exact ⟨by rw [HN.out.1, HN.out.2]; rfl, rfl⟩
  · have hd : decide ((s.size : Int) < 1) = false := decide_eq_false h0
    by_cases h4 : 4 < (s.size : Int)
    · have hd4 : decide (4 < (s.size : Int)) = true := decide_eq_true h4
      have HN := Lib.hid (hex_no (l := ls s) (fun h => by have := h.1.2; rw [ls_length] at this; omega))
      go_enter Tryd.func33, Tryd.ntmps33
      go_wp2
      go_ret2
      exact ⟨by rw [HN.out.1, HN.out.2]; rfl, rfl⟩
    · have hd4 : decide (4 < (s.size : Int)) = false := decide_eq_false h4
      have hs4 : s.size ≤ 4 := by omega
      have HS := Lib.hid (show 1 ≤ s.size by omega)
      clear h0 h4
      go_enter Tryd.func33, Tryd.ntmps33
      go_wp2
      go_loop [4, 5] (fun n i => ∃ (k : Nat) (z : Int), k ≤ s.size ∧ i = .int .i64 k ∧ n = .int .i64 z ∧ 0 ≤ z ∧ z ≤ 65535 ∧ Hid (z = (valB 16 0 ((ls s).take k) : Nat)) ∧ Hid (((ls s).take k).all (fun c => decide (digV c < 16)) = true)) (fun _ i => s.size - (intOf i).toNat)
      case atStart => exact ⟨0, 0, Nat.zero_le _, rfl, rfl, by omega, by omega, Lib.hid rfl, Lib.hid rfl⟩
      case round =>
        obtain ⟨k, z, hk, rfl, rfl, hz0, hz1, HZ, HALL⟩ := hrel
        by_cases hlt : k < s.size
        · have HZ16 : Hid (z ≤ 4095) := by
            show _ ≤ _
            have h1 := hexval_lt ((ls s).take k) 0 0 (by decide) HALL.out
            rw [List.length_take, Nat.min_eq_left (by rw [ls_length]; omega), Nat.zero_add] at h1
            have h2 : (16 : Nat) ^ k ≤ 16 ^ 3 := Nat.pow_le_pow_right (by decide) (by omega)
            have e : (16 : Nat) ^ 3 = 4096 := by decide
            rw [HZ.out]; omega
          have hz3 : z ≤ 4095 := HZ16.out
          have hyl := byte_lt s[k]
          obtain ⟨y, hy⟩ : ∃ y : Int, y = (s[k].toNat : Int) := ⟨_, rfl⟩
          have hy0 : 0 ≤ y := by omega
          have HY := Lib.hid hy
          have hye : (s[k].toNat : Int) = y := hy.symm
          rw [← hy] at hyl
          clear hy
          by_cases h1 : (48 : Int) ≤ y ∧ y ≤ 57
          · obtain ⟨h1, h2⟩ := h1
            have HDV : Hid (y - 48 = (digV s[k] : Nat)) := by show _ = _; have := HY.out; unfold digV; rw [if_pos (by omega)]; omega
            have HZ2 : Hid (z * 16 + (y - 48) = (valB 16 0 ((ls s).take (k + 1)) : Nat)) := by
              show _ = _
              rw [hexval_take s k hlt, HDV.out, HZ.out]; omega
            have HA2 : Hid (((ls s).take (k + 1)).all (fun c => decide (digV c < 16)) = true) := by
              refine Lib.hid (take_all_succ _ s k hlt HALL.out (decide_eq_true ?_))
              have := HDV.out
              omega
            go_wp2
            go_round
            case rel => exact ⟨k + 1, z * 16 + (y - 48), by omega, by go_num, by first | rfl | go_num | (congr 1; omega), by omega, by omega, HZ2, HA2⟩
            case measure => simp [intOf]; omega
          · by_cases h2 : (97 : Int) ≤ y ∧ y ≤ 102
            · obtain ⟨h2, h3⟩ := h2
              have h4 : ¬ y ≤ 57 := by omega
              have h5 : (48 : Int) ≤ y := by omega
              clear h1
              have HDV : Hid (y - 97 + 10 = (digV s[k] : Nat)) := by show _ = _; have := HY.out; unfold digV; rw [if_neg (by omega), if_pos (by omega)]; omega
              have HZ2 : Hid (z * 16 + (y - 97 + 10) = (valB 16 0 ((ls s).take (k + 1)) : Nat)) := by
                show _ = _
                rw [hexval_take s k hlt, HDV.out, HZ.out]; omega
              have HA2 : Hid (((ls s).take (k + 1)).all (fun c => decide (digV c < 16)) = true) := by
                refine Lib.hid (take_all_succ _ s k hlt HALL.out (decide_eq_true ?_))
                have := HDV.out
                omega
              go_wp2
              go_round
              case rel => exact ⟨k + 1, z * 16 + (y - 97 + 10), by omega, by go_num, by first | rfl | go_num | (congr 1; omega), by omega, by omega, HZ2, HA2⟩
              case measure => simp [intOf]; omega
            · by_cases h3 : (65 : Int) ≤ y ∧ y ≤ 70
              · obtain ⟨h3, h4⟩ := h3
                have h5 : ¬ y ≤ 57 := by omega
                have h6 : (48 : Int) ≤ y := by omega
                have h7 : ¬ (97 : Int) ≤ y := by omega
                clear h1 h2
                have HDV : Hid (y - 65 + 10 = (digV s[k] : Nat)) := by show _ = _; have := HY.out; unfold digV; rw [if_neg (by omega), if_neg (by omega), if_pos (by omega)]; omega
                have HZ2 : Hid (z * 16 + (y - 65 + 10) = (valB 16 0 ((ls s).take (k + 1)) : Nat)) := by
                  show _ = _
                  rw [hexval_take s k hlt, HDV.out, HZ.out]; omega
                have HA2 : Hid (((ls s).take (k + 1)).all (fun c => decide (digV c < 16)) = true) := by
                  refine Lib.hid (take_all_succ _ s k hlt HALL.out (decide_eq_true ?_))
                  have := HDV.out
                  omega
                go_wp2
                go_round
                case rel => exact ⟨k + 1, z * 16 + (y - 65 + 10), by omega, by go_num, by first | rfl | go_num | (congr 1; omega), by omega, by omega, HZ2, HA2⟩
                case measure => simp [intOf]; omega
              · have HN := Lib.hid (hex_no (l := ls s) (fun h => hex_all_no s k hlt (by have := HY.out; unfold digV; rw [if_neg (by omega), if_neg (by omega), if_neg (by omega)]; decide) h.2))
                by_cases g1 : (48 : Int) ≤ y
                · have g2 : ¬ y ≤ 57 := fun h => h1 ⟨g1, h⟩
                  by_cases g3 : (65 : Int) ≤ y
                  · have g4 : ¬ y ≤ 70 := fun h => h3 ⟨g3, h⟩
                    by_cases g5 : (97 : Int) ≤ y
                    · have g6 : ¬ y ≤ 102 := fun h => h2 ⟨g5, h⟩
                      clear h1 h2 h3
                      go_wp2
                      go_ret2
                      exact ⟨by rw [HN.out.1, HN.out.2]; rfl, rfl⟩
                    · clear h1 h2 h3
                      have g7 := g5
                      go_wp2
                      go_ret2
                      exact ⟨by rw [HN.out.1, HN.out.2]; rfl, rfl⟩
                  · have g5 : ¬ (97 : Int) ≤ y := by omega
                    clear h1 h2 h3
                    go_wp2
                    go_ret2
                    exact ⟨by rw [HN.out.1, HN.out.2]; rfl, rfl⟩
                · have g3 : ¬ (65 : Int) ≤ y := by omega
                  have g5 : ¬ (97 : Int) ≤ y := by omega
                  clear h1 h2 h3
                  go_wp2
                  go_ret2
                  exact ⟨by rw [HN.out.1, HN.out.2]; rfl, rfl⟩
        · obtain rfl : k = s.size := by omega
          have HN : Hid (hV (ls s) = z ∧ hK (ls s) = true) := by
            have hz := HZ.out
            have ha := HALL.out
            rw [take_ls_all] at hz ha
            have := hex_yes (by rw [ls_length]; exact HS.out) (by rw [ls_length]; exact hs4) ha
            rw [hz]
            exact Lib.hid this
          go_wp2
          go_ret2
          exact ⟨by rw [HN.out.1, HN.out.2]; rfl, rfl⟩

/-- Where the first two colons are, or -1. -/
def dblV (l : List UInt8) : Int := match dblGo l 0 with
  | none => -1
  | some i => (i : Int)
theorem dblGo_step (s : ByteArray) (k : Nat) (h : k + 1 < s.size) : dblGo ((ls s).drop k) k = if s[k] = 58 ∧ s[k + 1] = 58 then some k else dblGo ((ls s).drop (k + 1)) (k + 1) := by
  have e1 : (ls s).drop k = s[k] :: (ls s).drop (k + 1) := by
    rw [List.drop_eq_getElem_cons (by rw [ls_length]; omega), ls_getE s k (by omega)]; rfl
  have e2 : (ls s).drop (k + 1) = s[k + 1] :: (ls s).drop (k + 2) := by
    rw [List.drop_eq_getElem_cons (by rw [ls_length]; omega), ls_getE s (k + 1) (by omega)]; rfl
  rw [e1, e2, dblGo]
theorem dblGo_end (s : ByteArray) (k : Nat) (h : ¬ k + 1 < s.size) : dblGo ((ls s).drop k) k = none := by
  have : ((ls s).drop k).length ≤ 1 := by rw [List.length_drop, ls_length]; omega
  match hx : (ls s).drop k, this with
  | [], _ => rfl
  | [_], _ => rfl

set_option maxHeartbeats 1000000 in
theorem refDouble_any (s : ByteArray) (w : World) (hs : s.size ≤ 1000000000) :
    Calls Tryd.prog 20 #[.string s] w fun e w' => e = .returned (.int .i64 (dblV (ls s))) ∧ w = w' := by
  go_enter Tryd.func20, Tryd.ntmps20
  go_wp2
  go_loop [3] (fun i => ∃ k : Nat, k ≤ s.size ∧ i = .int .i64 k ∧ Hid (dblGo ((ls s).drop k) k = dblGo (ls s) 0)) (fun i => s.size - (intOf i).toNat)
  case atStart => exact ⟨0, Nat.zero_le _, rfl, Lib.hid rfl⟩
  case round =>
    obtain ⟨k, hk, rfl, HD⟩ := hrel
    by_cases hlt : k + 1 < s.size
    · have hlt1 : k < s.size := by omega
      have hd : decide ((k : Int) + 1 < (s.size : Int)) = true := decide_eq_true (by omega)
      have HST := Lib.hid (dblGo_step s k hlt)
      by_cases h1 : s[k] = 58
      · have hq1 : ((s[k].toNat : Int) == 58) = true := by rw [h1]; rfl
        by_cases h2 : s[k + 1] = 58
        · have hq2 : ((s[k + 1].toNat : Int) == 58) = true := by rw [h2]; rfl
          have HR : Hid (dblV (ls s) = (k : Int)) := by
            show _ = _
            unfold dblV
            rw [← HD.out, HST.out, if_pos ⟨h1, h2⟩]
          clear h1 h2
          go_wp2
          go_ret
          exact ⟨ret_int HR.out.symm, rfl⟩
        · have hq2 : ((s[k + 1].toNat : Int) == 58) = false := by
            rw [beq_eq_false_iff_ne]
            exact fun e => h2 (UInt8.toNat_inj.1 (by rw [show (58 : UInt8).toNat = 58 from rfl]; omega))
          have HR : Hid (dblGo ((ls s).drop (k + 1)) (k + 1) = dblGo (ls s) 0) := by
            show _ = _
            rw [← HD.out, HST.out, if_neg (fun h => h2 h.2)]
          clear h1 h2
          go_wp2
          go_round
          case rel => exact ⟨k + 1, by omega, by go_num, HR⟩
          case measure => simp [intOf]; omega
      · have hq1 : ((s[k].toNat : Int) == 58) = false := by
          rw [beq_eq_false_iff_ne]
          exact fun e => h1 (UInt8.toNat_inj.1 (by rw [show (58 : UInt8).toNat = 58 from rfl]; omega))
        have HR : Hid (dblGo ((ls s).drop (k + 1)) (k + 1) = dblGo (ls s) 0) := by
          show _ = _
          rw [← HD.out, HST.out, if_neg (fun h => h1 h.1)]
        clear h1
        go_wp2
        go_round
        case rel => exact ⟨k + 1, by omega, by go_num, HR⟩
        case measure => simp [intOf]; omega
    · have hd : decide ((k : Int) + 1 < (s.size : Int)) = false := decide_eq_false (by omega)
      have HR : Hid (dblV (ls s) = -1) := by
        show _ = _
        unfold dblV
        rw [← HD.out, dblGo_end s k hlt]
      go_wp2
      go_ret
      exact ⟨ret_int HR.out.symm, rfl⟩

end Go.Proofs.YthihfhmclmmadaaDoor
