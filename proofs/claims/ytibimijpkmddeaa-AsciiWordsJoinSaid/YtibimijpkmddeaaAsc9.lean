/-
  The walk of AsciiWordsJoin: it returns true.
-/
import Derived.Test.YtibimijpkmddeaaAsc7
import Derived.Test.YtibimijpkmddeaaAscJ
namespace Go.Proofs.Ytibimijpkmddeaa
open Go.RowKit

theorem good_byte {l : List UInt8} (h : GoodWord l) (k : Nat) (hk : k < (bs l).size) : spaceB ((bs l)[k].toNat : Int) = false := by
  have hm : (bs l)[k] ∈ l := by
    have := ls_get (bs l) k hk
    rw [ls_bs] at this
    exact List.mem_of_getElem? this
  have := List.all_eq_true.1 h.2 _ hm
  simpa [spaceU] using this

theorem one_size (x : UInt8) : (ByteArray.mk #[x]).size = 1 := rfl

set_option maxRecDepth 100000 in
set_option maxHeartbeats 4000000 in
theorem asciiWords_walk (s : ByteArray) (hmax : s.size ≤ maxLen) (w : World) : Calls Try.prog 6 #[.string s] w (Yes w) := by
  unfold maxLen at hmax
  by_cases hs : s.size ≤ 2000
  · have htt := trimS_trimS s
    have hta := trimS_around s
    have hgood := wordsL_good (ls s)
    have hshort : ∀ x ∈ wordsL (ls s), x.length ≤ 2000 := fun x hx => by
      have := wordsFrom_short (ls s) [] x hx
      rw [ls_length] at this
      simp at this
      omega
    have hwl : (wordsL (ls s)).length ≤ 2001 := by have h := wordsFrom_length (ls s) []; rw [ls_length] at h; unfold wordsL; omega
    go_enter Try.func6, Try.ntmps6
    have HG := Lib.hid hgood
    have HS := Lib.hid hshort
    have HW := Lib.hid hwl
    clear hgood hshort hwl
    go_wp2_with fail
    refine (words_any s _ (by omega)).mono ?_
    rintro e w1 ⟨v, n, rfl, hown, hb⟩
    obtain ⟨A, c, rfl, hA, _⟩ := Has.of_own hown
    clear hown
    have HL : Hid ((wordsL (ls s)).length = n) := by show _ = _; simpa [wv] using hA.1
    have hn : n ≤ 2001 := by rw [← HL.out]; exact HW.out
    have HA := Lib.hid hA
    clear hA
    generalize HWS : wordsL (ls s) = ws at *
    have HE := Lib.hid HWS
    clear HWS
    go_wp2
    go_loop [4, 5, 6] (fun j i _ => ∃ (m : Nat) (J : ByteArray), m ≤ n ∧ j = .string J ∧ i = .int .i64 m ∧ Joined (ws.take m) (ls J) ∧ J.size ≤ m * 2002) (fun _ i _ => n - (intOf i).toNat)
    case atStart => exact ⟨0, ByteArray.mk #[], Nat.zero_le _, rfl, rfl, .inl ⟨rfl, rfl⟩, by decide⟩
    case round =>
      obtain ⟨m, J, hm, rfl, rfl, hj, hjs⟩ := hrel
      have HJ := Lib.hid hj
      clear hj
      by_cases hlt : m < n
      · have hlt2 : m < ws.length := by rw [HL.out]; exact hlt
        obtain ⟨b, off, rfl, hbb, hc⟩ := HA.out.at_ hlt
        have hc' : w1.cell? ⟨b, off + m, none⟩ = some (.string (bs ws[m])) := by rw [hc]; simp [wv]
        clear hc
        have hgw := HG.out ws[m] (List.getElem_mem hlt2)
        have hgs := HS.out ws[m] (List.getElem_mem hlt2)
        have HGW := Lib.hid hgw
        have hne : (bs ws[m]).toList = ws[m] := by rw [toList_ls, ls_bs]
        have hnn : ws[m].isEmpty = false := by cases h : ws[m] with | nil => exact absurd h hgw.1 | cons _ _ => rfl
        have hsz : (bs ws[m]).size ≤ 2000 := by rw [bs_size]; exact hgs
        clear hgw hgs
        go_wp2
        go_loop [6] (fun k => ∃ q : Nat, q ≤ (bs ws[m]).size ∧ k = .int .i64 q) (fun k => (bs ws[m]).size - (intOf k).toNat)
        case atStart => exact ⟨0, Nat.zero_le _, rfl⟩
        case round =>
          obtain ⟨q, hq, rfl⟩ := hrel
          by_cases hlq : q < (bs ws[m]).size
          · have hgb := good_byte HGW.out q hlq
            go_wp2_with (go_at_call 11; refine (isSpace_any _ _).mono ?_; rintro e w' ⟨rfl, rfl⟩)
            go_round
            case rel => exact ⟨q + 1, by omega, by go_num⟩
            case measure => simp [intOf]; omega
          · by_cases h0 : 0 < m
            · have HN := Lib.hid (joined_more hlt2 h0 HJ.out HGW.out)
              go_wp2
              go_roundw
              case rel => exact ⟨m + 1, _, by omega, rfl, by go_num, HN.out, by rw [ByteArray.size_append, ByteArray.size_append, one_size]; omega⟩
              case measure => simp [intOf]; omega
            · obtain rfl : m = 0 := by omega
              have HN := Lib.hid (joined_one hlt2 HJ.out HGW.out)
              have hc0 : w1.cell? ⟨b, off, none⟩ = some (.string (bs ws[0])) := hc'
              go_wp2
              go_roundw
              case rel => exact ⟨1, _, by omega, rfl, by go_num, HN.out, by rw [ByteArray.size_append]; omega⟩
              case measure => simp [intOf]; omega
      · obtain rfl : m = n := by omega
        have HW2 : Hid (wordsL (ls J) = ws) := by
          have := joined_words HJ.out
          rwa [List.take_of_length_le (by rw [HL.out]; exact Nat.le_refl _)] at this
        go_wp2_with fail
        refine (trim_any s _ (by omega)).mono ?_
        rintro e w2 ⟨rfl, h2⟩
        have HA2 := Lib.hid (HA.out.below h2)
        replace hb := hb.trans (h2.mono hb.size)
        go_wp2_with fail
        refine (words_any J _ (by omega)).mono ?_
        rintro e w3 ⟨v, n2, rfl, hown, h3⟩
        replace hb := hb.trans (h3.mono hb.size)
        obtain ⟨A2, c2, rfl, hA2, _⟩ := Has.of_own hown
        clear hown
        have hHA := HA2.out.below' h3 (h2.size)
        rw [HW2.out] at hA2
        rw [wv_map] at hHA hA2
        have hl2 : n2 = m := by have h := hA2.1; rw [List.length_map, List.length_map] at h; rw [← h, HL.out]
        have HA3 := Lib.hid (hHA.more (Nat.le_trans h2.size h3.size))
        have HA4 := Lib.hid hA2
        have hn2 : n2 ≤ 2001 := by omega
        have htx := textsB_refl (ws.map bs)
        clear hHA hA2 hl2
        go_wp2_with fail
        refine (texts_any _ _ _ _ _ _ _ _ _ _ HA4.out HA3.out (by omega) (by omega)).mono ?_
        rintro e w4 ⟨rfl, h4⟩
        replace hb := hb.trans (h4.mono hb.size)
        rw [htx]
        have hts : (trimS s).size ≤ 2000 := trimS_size s 2000 hs
        go_wp2_with fail
        refine (trim_any (trimS s) _ (by omega)).mono ?_
        rintro e w5 ⟨rfl, h5⟩
        replace hb := hb.trans (h5.mono hb.size)
        go_wp2_with fail
        refine (trim_any _ _ (by rw [ByteArray.size_append, ByteArray.size_append, one_size, one_size]; omega)).mono ?_
        rintro e w6 ⟨rfl, h6⟩
        replace hb := hb.trans (h6.mono hb.size)
        go_wp2_with fail
        refine (awake1_any _).mono ?_
        rintro e w7 ⟨rfl, h7⟩
        replace hb := hb.trans (h7.mono hb.size)
        go_wp2
        go_ret
        exact ⟨rfl, hb⟩
  · go_enter Try.func6, Try.ntmps6
    go_wp2_with fail
    refine (awake1_any _).mono ?_
    rintro e w1 ⟨rfl, hb⟩
    go_wp2
    go_ret
    exact ⟨rfl, hb⟩

end Go.Proofs.Ytibimijpkmddeaa
