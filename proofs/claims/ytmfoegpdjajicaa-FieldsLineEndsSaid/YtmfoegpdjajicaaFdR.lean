/-
  The reference of layer 21: find, Value.
-/
import Derived.Test.YtmfoegpdjajicaaFldP
import Derived.Test.YtmfoegpdjajicaaRfTk
import Derived.Test.YtmfoegpdjajicaaRfTr
namespace Go.Proofs.Ytmfoegpdjajicaa
open Go.RowKit

/-- Where the first line feed stands. -/
def feedN (l : List UInt8) : Int := if l.any (isB 10) then ((befL (isB 10) l).length : Int) else -1
theorem feed_no {l : List UInt8} (h : l.all (fun b => !isB 10 b) = true) : feedN l = -1 := by
  unfold feedN
  rw [if_neg]
  intro e
  obtain ⟨b, hb, h10⟩ := List.any_eq_true.1 e
  have := List.all_eq_true.1 h b hb
  rw [h10] at this
  cases this
theorem feed_at {l : List UInt8} {k : Nat} (hk : k < l.length) (h : (l.take k).all (fun b => !isB 10 b) = true) (hb : isB 10 l[k] = true) : feedN l = (k : Int) := by
  have h10 : l[k] = 10 := by simpa [isB] using hb
  have e : l.take k ++ 10 :: l.drop (k + 1) = l := by rw [← h10, List.getElem_cons_drop, List.take_append_drop]
  have c := cut_line (x := l.take k) (l.drop (k + 1)) (fun b hb => by have := List.all_eq_true.1 h b hb; simpa [isB] using this)
  rw [e] at c
  unfold feedN
  rw [if_pos c.2.2, c.1, List.length_take, Nat.min_eq_left (by omega)]

set_option maxHeartbeats 1000000 in
theorem refFind_any (A : Option Addr) (n c : Nat) (l : List UInt8) (B : Nat) (w : World) (hH : Has w B A n (l.map bv)) (hn : n ≤ 1000000000) :
    Calls Try.prog 24 #[.slice A n c] w fun e w' => e = .returned (.int .i64 (feedN l)) ∧ w = w' := by
  have hl : l.length = n := by have := hH.1; simpa using this
  have HL := Lib.hid hl
  have HH := Lib.hid hH
  clear hl hH
  go_enter Try.func24, Try.ntmps24
  go_wp2
  go_loop [3] (fun i => ∃ k : Nat, k ≤ n ∧ i = .int .i64 k ∧ (l.take k).all (fun b => !isB 10 b) = true) (fun i => n - (intOf i).toNat)
  case atStart => exact ⟨0, Nat.zero_le _, rfl, rfl⟩
  case round =>
    obtain ⟨k, hk, rfl, ht⟩ := hrel
    have HT := Lib.hid ht
    clear ht
    by_cases hlt : k < n
    · have hkl : k < l.length := by rw [HL.out]; exact hlt
      obtain ⟨b, off, rfl, hb, hc⟩ := HH.out.at_ hlt
      rw [List.getElem_map] at hc
      have hc' : w.cell? ⟨b, off + k, none⟩ = some (.int .u8 (l[k].toNat : Int)) := hc
      clear hc
      by_cases h10 : l[k] = 10
      · have hq : ((l[k].toNat : Int) == 10) = true := by rw [h10]; rfl
        have HF := Lib.hid (feed_at hkl HT.out (by rw [h10]; rfl))
        clear h10
        go_wp2
        go_ret
        exact ⟨ret_int (by rw [HF.out]), rfl⟩
      · have hq : ((l[k].toNat : Int) == 10) = false := by
          rw [beq_eq_false_iff_ne]
          exact fun e => h10 (UInt8.toNat_inj.1 (by show l[k].toNat = 10; omega))
        have HN : Hid ((l.take (k + 1)).all (fun b => !isB 10 b) = true) := Lib.hid (by
          rw [List.take_succ_eq_append_getElem hkl, List.all_append, HT.out]
          simp [isB, h10])
        clear h10
        go_wp2
        go_round
        case rel => exact ⟨k + 1, by omega, by go_num, HN.out⟩
        case measure => simp [intOf]; omega
    · have HF : Hid (feedN l = -1) := Lib.hid (feed_no (by
        have := HT.out
        rwa [List.take_of_length_le (by rw [HL.out]; omega)] at this))
      go_wp2
      go_ret
      exact ⟨ret_int (by rw [HF.out]), rfl⟩

/-- The value of a field. -/
def okV (v : List UInt8) : Bool := v.all inU && decide (trimL v = v)
theorem refVal21_any (s : ByteArray) (w : World) (hs : s.size ≤ 1000000000) : Calls Try.prog 33 #[.string s] w fun e w' => e = .returned (.bool (okV (ls s))) ∧ w = w' := by
  have c1 := refValue_any17 s hs w
  have c2 := fun W => refTrim_any s W hs
  have e : ((trimS s).toList == s.toList) = decide (trimL (ls s) = ls s) := by
    rw [toList_ls, toList_ls, trimS, ls_bs, Bool.eq_iff_iff]
    simp
  unfold okV
  generalize decide (trimL (ls s) = ls s) = q at *
  generalize trimS s = T at *
  cases hv : (ls s).all inU with
  | true =>
    rw [hv] at c1
    rw [Bool.true_and]
    clear hv
    go_enter Try.func33, Try.ntmps33
    go_wp2_with fail
    refine c1.mono ?_
    rintro e w1 ⟨rfl, rfl⟩
    go_wp2_with fail
    refine (c2 _).mono ?_
    rintro e w1 ⟨rfl, rfl⟩
    go_wp2
    go_ret
    exact ⟨rfl, rfl⟩
  | false =>
    rw [hv] at c1
    rw [Bool.false_and]
    clear hv
    go_enter Try.func33, Try.ntmps33
    go_wp2_with fail
    refine c1.mono ?_
    rintro e w1 ⟨rfl, rfl⟩
    go_wp2
    go_ret
    exact ⟨rfl, rfl⟩

end Go.Proofs.Ytmfoegpdjajicaa
