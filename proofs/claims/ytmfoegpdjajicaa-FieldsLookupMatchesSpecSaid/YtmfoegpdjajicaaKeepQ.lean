/-
  Contract of hstsstorekeep.Texts: it only reads.
-/
import Derived.Test.YtmfoegpdjajicaaKeep
namespace Go.Proofs.Ytmfoegpdjajicaa
open Go.RowKit

set_option maxHeartbeats 1000000 in
theorem texts_q (A1 A2 : Option Addr) (n1 n2 c1 c2 : Nat) (xs ys : List ByteArray) (B : Nat) (w : World) (hA1 : Has w B A1 n1 (xs.map Value.string)) (hA2 : Has w B A2 n2 (ys.map Value.string))
    (hl1 : n1 ≤ 1000000000) (_hl2 : n2 ≤ 1000000000) :
    Calls Try.prog 19 #[.slice A1 n1 c1, .slice A2 n2 c2] w fun e w' => e = .returned (.bool (textsB xs ys)) ∧ ∃ m, w' = w.drewN m := by
  have HL1 : Hid (xs.length = n1) := by show _ = _; simpa using hA1.1
  have HL2 : Hid (ys.length = n2) := by show _ = _; simpa using hA2.1
  have HA1 := Lib.hid hA1
  have HA2 := Lib.hid hA2
  clear hA1 hA2
  by_cases hsz : n1 = n2
  · have hsz' : ((n1 : Int) != (n2 : Int)) = false := by simp [hsz]
    have HZ := Lib.hid hsz
    clear hsz
    go_enter Try.func19, Try.ntmps19
    go_wp2
    go_loopw [5] (fun i wr => ∃ k : Nat, k ≤ n1 ∧ i = .int .i64 k ∧ (∃ n, wr = w.drewN n) ∧ xs.take k = ys.take k) (fun i _ => n1 - (intOf i).toNat)
    case atStart => exact ⟨0, Nat.zero_le _, rfl, ⟨0, rfl⟩, rfl⟩
    case round =>
      obtain ⟨k, hk, rfl, hdr, htk⟩ := hrel
      have HD := Lib.hid hdr
      have HT := Lib.hid htk
      clear hdr htk
      by_cases hlt : k < n1
      · have hk1 : k < xs.length := by rw [HL1.out]; exact hlt
        have hk2 : k < ys.length := by rw [HL2.out, ← HZ.out]; exact hlt
        have hlt2 : k < n2 := by rw [← HZ.out]; exact hlt
        obtain ⟨b1, o1, rfl, hb1, hc1⟩ := HA1.out.at_ hlt
        obtain ⟨b2, o2, rfl, hb2, hc2⟩ := HA2.out.at_ hlt2
        rw [List.getElem_map] at hc1 hc2
        have hc1' : wr.cell? ⟨b1, o1 + k, none⟩ = some (.string xs[k]) := by obtain ⟨n, rfl⟩ := HD.out; exact hc1
        have hc2' : wr.cell? ⟨b2, o2 + k, none⟩ = some (.string ys[k]) := by obtain ⟨n, rfl⟩ := HD.out; exact hc2
        clear hc1 hc2
        by_cases he : xs[k] = ys[k]
        · have HN := Lib.hid (take_succ_eq hk1 hk2 HT.out he)
          have hbe : (xs[k].toList == ys[k].toList) = true := beq_str_true he
          clear he
          go_wp2
          go_quiet (fail)
          go_wp2
          go_roundw
          case rel => exact ⟨k + 1, by omega, by go_num, by obtain ⟨n, rfl⟩ := HD.out; exact ⟨n + nq, by rw [World.drewN_drewN]⟩, HN.out⟩
          case measure => simp [intOf]; omega
        · have HF := Lib.hid (textsB_at xs ys k hk1 hk2 he)
          have hbe : (xs[k].toList == ys[k].toList) = false := beq_str_false he
          clear he
          go_wp2
          go_quiet (fail)
          go_wp2
          go_ret
          exact ⟨ret_bool HF.out.symm, by obtain ⟨n, rfl⟩ := HD.out; exact ⟨n + nq, by rw [World.drewN_drewN]⟩⟩
      · have HF : Hid (textsB xs ys = true) := by
          have h := HT.out
          rw [List.take_of_length_le (by rw [HL1.out]; omega), List.take_of_length_le (by rw [HL2.out, ← HZ.out]; omega)] at h
          show _ = _
          unfold textsB
          exact decide_eq_true h
        go_wp2
        go_ret
        exact ⟨ret_bool HF.out.symm, by obtain ⟨n, rfl⟩ := HD.out; exact ⟨n, rfl⟩⟩
  · have hsz' : ((n1 : Int) != (n2 : Int)) = true := by simp; omega
    have HF := Lib.hid (textsB_len xs ys (by rw [HL1.out, HL2.out]; exact hsz))
    clear hsz
    go_enter Try.func19, Try.ntmps19
    go_wp2
    go_ret
    exact ⟨ret_bool HF.out.symm, 0, rfl⟩
theorem quiet_q {P : Program} {f : FuncId} {args : Array Value} {w : World} {n : Nat} {v : Value}
    (h : Calls P f args (w.drewN n) fun e w' => e = .returned v ∧ ∃ m, w' = (w.drewN n).drewN m) : Calls P f args (w.drewN n) fun e w'' => e = .returned v ∧ ∃ m, w'' = w.drewN m :=
  h.mono fun _ _ ⟨he, m, hm⟩ => ⟨he, n + m, by rw [hm, World.drewN_drewN]⟩

end Go.Proofs.Ytmfoegpdjajicaa
