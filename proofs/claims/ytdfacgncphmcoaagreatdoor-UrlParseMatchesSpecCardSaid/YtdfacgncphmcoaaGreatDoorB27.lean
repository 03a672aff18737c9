/-
The reference's index of package url: the first byte that is in a set.
Contract of Lower of the reference of layer 1.
The reference's scheme of package url.
The reference's parse of package url, in plain words: where its loops stand.
The reference's hex of layer 14.
-/
import Derived.Test.YtdfacgncphmcoaaGreatDoorB26
import Derived.Test.YtdfacgncphmcoaaGreatDoorB06
import Derived.Test.YtdfacgncphmcoaaGreatDoorB01
import Derived.Deep.RegionHeld3
import Derived.Test.YtdfacgncphmcoaaGreatDoorB04
import Derived.Test.YtdfacgncphmcoaaGreatDoorB19
import Derived.Test.YtdfacgncphmcoaaGreatDoorB21
import Derived.Deep.LoopGhost
import Derived.StillTailTactics
import Derived.BigQuiet
namespace Go.Proofs.YtdfacgncphmcoaaGreatDoor
section
open Go.RowKit Go.Shelf
/-- A byte of a set. -/
def inS (c : List UInt8) (b : UInt8) : Bool := c.contains b
theorem inS_no {S : ByteArray} {b : UInt8} (h : ∀ j (hj : j < S.size), b ≠ S[j]) : inS (ls S) b = false := by
  unfold inS
  rw [Bool.eq_false_iff]
  intro hc
  rw [List.contains_iff_mem] at hc
  obtain ⟨j, hj, e⟩ := List.getElem_of_mem hc
  have hj2 : j < S.size := by rw [← ls_length]; exact hj
  have : (ls S)[j] = S[j] := by
    have := Lib.data_getElem? S j hj2
    rw [List.getElem?_eq_getElem (by rw [Lib.size_eq] at hj2; exact hj2)] at this
    exact Option.some.inj this
  exact h j hj2 (e.symm.trans this)
theorem inS_yes {S : ByteArray} {j : Nat} (hj : j < S.size) : inS (ls S) S[j] = true := by
  unfold inS
  rw [List.contains_iff_mem]
  exact List.mem_of_getElem? (Lib.data_getElem? S j hj)
theorem idx_none {p : UInt8 → Bool} {s : ByteArray} (h : ∀ b ∈ (ls s).take s.size, p b = false) : (befL p (ls s)).length = s.size := by
  rw [List.take_of_length_le (by rw [ls_length]; exact Nat.le_refl _)] at h
  rw [(bef_nil h).1, ls_length]
theorem ls_at (s : ByteArray) (n : Nat) (hn : n < s.size) (hl : n < (ls s).length) : (ls s)[n] = s[n] := by
  have := Lib.data_getElem? s n hn
  rw [List.getElem?_eq_getElem (by rw [Lib.size_eq] at hn; exact hn)] at this
  exact Option.some.inj this
theorem take_split (s : ByteArray) (n : Nat) (hn : n < s.size) : ls s = (ls s).take n ++ s[n] :: (ls s).drop (n + 1) := by
  have hl : n < (ls s).length := by rw [ls_length]; exact hn
  conv => lhs; rw [← List.take_append_drop n (ls s), List.drop_eq_getElem_cons hl, ls_at s n hn hl]
  rfl
theorem idx_hit {p : UInt8 → Bool} {s : ByteArray} {n : Nat} (hn : n < s.size) (h : ∀ b ∈ (ls s).take n, p b = false) (hp : p s[n] = true) : (befL p (ls s)).length = n := by
  have e := take_split s n hn
  obtain ⟨h1, _⟩ := bef_app h (b := s[n] :: (ls s).drop (n + 1)) _ _ rfl hp
  rw [← e] at h1
  rw [h1, List.length_take, ls_length]
  omega
theorem idx_more {p : UInt8 → Bool} {s : ByteArray} {n : Nat} (hn : n < s.size) (h : ∀ b ∈ (ls s).take n, p b = false) (hp : p s[n] = false) : ∀ b ∈ (ls s).take (n + 1), p b = false := by
  have hl : n < (ls s).length := by rw [ls_length]; exact hn
  intro b hb
  rw [← List.take_append_getElem hl] at hb
  rcases List.mem_append.1 hb with hb | hb
  · exact h b hb
  · rw [List.mem_singleton.1 hb, ls_at s n hn hl]
    exact hp
set_option maxHeartbeats 1000000 in
theorem refIndex_any (s S : ByteArray) (w : World) (hs : s.size ≤ 1000000000) (hS : S.size ≤ 1000000000) :
    Calls Tryz.prog 63 #[.string s, .string S] w fun e w' => e = .returned (.int .i64 ((befL (inS (ls S)) (ls s)).length : Nat)) ∧ Below w.heap.size w w' := by
  go_enter Tryz.func63, Tryz.ntmps63
  go_wp2
  go_loopw [5, 6] (fun i _ wr => ∃ n : Nat, n ≤ s.size ∧ i = .int .i64 n ∧ Below w.heap.size w wr ∧ Hid (∀ b ∈ (ls s).take n, inS (ls S) b = false)) (fun i _ _ => s.size - (intOf i).toNat)
  case atStart => exact ⟨0, Nat.zero_le _, rfl, Below.refl _ _, Lib.hid (fun b hb => by simp at hb)⟩
  case round =>
    obtain ⟨n, hn, rfl, hbw, HN⟩ := hrel
    by_cases hlt : n < s.size
    · go_wp2
      go_loopw [6] (fun k wk => ∃ m : Nat, m ≤ S.size ∧ k = .int .i64 m ∧ Below w.heap.size w wk ∧ Hid (∀ j (hj : j < S.size), j < m → s[n] ≠ S[j])) (fun k _ => S.size - (intOf k).toNat)
      case atStart => exact ⟨0, Nat.zero_le _, rfl, hbw, Lib.hid (fun j hj h => by omega)⟩
      case round =>
        obtain ⟨m, hm, rfl, hbk, HM⟩ := hrel
        by_cases hmt : m < S.size
        · by_cases he : s[n] = S[m]
          · have hq : (((s[n]).toNat : Int) == ((S[m]).toNat : Int)) = true := by rw [he]; simp
            have HF : Hid ((befL (inS (ls S)) (ls s)).length = n) := Lib.hid (idx_hit hlt HN.out (by rw [he]; exact inS_yes hmt))
            clear he
            go_wp2
            go_quiet (fail)
            go_wp2
            go_ret
            exact ⟨by rw [HF.out]; rfl, hbk.trans ((below_drewN _ _).mono hbk.size)⟩
          · have hq : (((s[n]).toNat : Int) == ((S[m]).toNat : Int)) = false := by
              rw [beq_eq_false_iff_ne]
              intro h
              exact he (UInt8.toNat_inj.1 (by omega))
            have HM2 : Hid (∀ j (hj : j < S.size), j < m + 1 → s[n] ≠ S[j]) := Lib.hid (fun j hj h => by
              by_cases hjm : j = m
              · subst hjm; exact he
              · exact HM.out j hj (by omega))
            clear he
            go_wp2
            go_quiet (fail)
            go_wp2
            go_roundw
            case rel => exact ⟨m + 1, by omega, by go_num, hbk.trans ((below_drewN _ _).mono hbk.size), HM2⟩
            case measure => simp [intOf]; omega
        · obtain rfl : m = S.size := by omega
          have HN2 : Hid (∀ b ∈ (ls s).take (n + 1), inS (ls S) b = false) := Lib.hid (idx_more hlt HN.out (inS_no (fun j hj => HM.out j hj hj)))
          go_wp2
          go_roundw
          case rel => exact ⟨n + 1, by omega, by go_num, hbk, HN2⟩
          case measure => simp [intOf]; omega
    · obtain rfl : n = s.size := by omega
      have HF := Lib.hid (idx_none HN.out)
      go_wp2
      go_ret
      exact ⟨by rw [HF.out]; rfl, hbw⟩
end

section
open Go.RowKit
set_option maxHeartbeats 1000000 in
theorem refLower_any (s : ByteArray) (w : World) (hs : s.size ≤ 1000000000) :
    Calls Tryz.prog 27 #[.string s] w fun e w' => e = .returned (.string (lowS s)) ∧ Below w.heap.size w w' := by
  obtain ⟨i5, hi5, hz0, hz1, hz2⟩ := info_parts infoU8
  go_enter Tryz.func27, Tryz.ntmps27
  go_wp2
  go_loopw [3, 4] (fun v i wr => ∃ k : Nat, k ≤ s.size ∧ i = .int .i64 k ∧ wr.ownsRow w.heap.size 5 1 v k (((lowL (ls s)).take k).map bv) ∧ Below w.heap.size w wr) (fun _ i _ => s.size - (intOf i).toNat)
  case atStart => exact ⟨0, Nat.zero_le _, rfl, World.ownsRow_nil _ _ _ _, Below.refl _ _⟩
  case round =>
    obtain ⟨k, hk, rfl, hown, hb⟩ := hrel
    by_cases hlt : k < s.size
    · have hnext : Hid ((((lowL (ls s)).take k).map bv) ++ [.int .u8 (lowI (s[k].toNat : Int))] = ((lowL (ls s)).take (k + 1)).map bv) := by
        have hl : k < (lowL (ls s)).length := by rw [lowL_length, ls_length]; exact hlt
        rw [List.take_succ_eq_append_getElem hl, List.map_append]
        simp only [lowL, List.getElem_map, ls_getE s k hlt, List.map_cons, List.map_nil, bv_eq, lowU_toNat]
        rfl
      have hbl := byte_lt s[k]
      by_cases hu : upperB (s[k].toNat : Int) = true
      · have hlo : Hid (lowI (s[k].toNat : Int) = (s[k].toNat : Int) + 32) := by show _ = _; simp [lowI, hu]
        have h65 : (65 : Int) ≤ (s[k].toNat : Int) := by simp [upperB] at hu; omega
        have h90 : (s[k].toNat : Int) ≤ 90 := by simp [upperB] at hu; omega
        clear hu
        go_wp2_with (at_builtin; refine wpList_app_one _ rfl _ _ 40 rfl w.heap.size 5 i5 (.int .u8 0) 1 tyBs hi5 hz0 hz1 hz2 rfl _ (by exact rfl) _ _ _ (by exact rfl) hown (by exact rfl) (by unfold maxLen; omega) (by omega) hb (Nat.le_refl _) ?_; intro v' w' hown' hb' _)
        go_roundw
        case rel => exact ⟨k + 1, by omega, by go_num, by rw [← hnext.out, hlo.out]; exact hown', hb'⟩
        case measure => simp [intOf]; omega
      · have hlo : Hid (lowI (s[k].toNat : Int) = (s[k].toNat : Int)) := by show _ = _; simp [lowI, hu]
        have hnu : ¬ ((65 : Int) ≤ (s[k].toNat : Int) ∧ (s[k].toNat : Int) ≤ 90) := by
          intro hc
          exact hu (by simp [upperB]; omega)
        clear hu
        by_cases h65 : (65 : Int) ≤ (s[k].toNat : Int)
        · have h90 : ¬ (s[k].toNat : Int) ≤ 90 := fun hc => hnu ⟨h65, hc⟩
          clear hnu
          go_wp2_with (at_builtin; refine wpList_app_one _ rfl _ _ 40 rfl w.heap.size 5 i5 (.int .u8 0) 1 tyBs hi5 hz0 hz1 hz2 rfl _ (by exact rfl) _ _ _ (by exact rfl) hown (by exact rfl) (by unfold maxLen; omega) (by omega) hb (Nat.le_refl _) ?_; intro v' w' hown' hb' _)
          go_roundw
          case rel => exact ⟨k + 1, by omega, by go_num, by rw [← hnext.out, hlo.out]; exact hown', hb'⟩
          case measure => simp [intOf]; omega
        · clear hnu
          go_wp2_with (at_builtin; refine wpList_app_one _ rfl _ _ 40 rfl w.heap.size 5 i5 (.int .u8 0) 1 tyBs hi5 hz0 hz1 hz2 rfl _ (by exact rfl) _ _ _ (by exact rfl) hown (by exact rfl) (by unfold maxLen; omega) (by omega) hb (Nat.le_refl _) ?_; intro v' w' hown' hb' _)
          go_roundw
          case rel => exact ⟨k + 1, by omega, by go_num, by rw [← hnext.out, hlo.out]; exact hown', hb'⟩
          case measure => simp [intOf]; omega
    · obtain rfl : k = s.size := by omega
      have hall : Hid (((lowL (ls s)).take s.size) = lowL (ls s)) := by
        show _ = _
        rw [List.take_of_length_le (by rw [lowL_length, ls_length]; exact Nat.le_refl _)]
      rw [hall.out] at hown
      have hconv := str_owned wr _ _ _ _ hown
      go_wp2
      go_ret
      exact ⟨rfl, hb⟩
end

section
open Go.RowKit Go.Shelf
/-- What scheme answers. -/
def schR (l : List UInt8) : Value := if (l.any (isB 58) && schL (befL (isB 58) l)) = true then .tuple #[.string (bs (lowL (befL (isB 58) l))), .string (bs ((fromL (isB 58) l).drop 1)), .bool true] else .tuple #[.string ⟨#[]⟩, .string ⟨#[]⟩, .bool false]
theorem pre_ok {l : List UInt8} (h : l = [] ∨ schL l = true) : ∀ b ∈ l, isB 58 b = false := by
  intro b hb
  rcases h with rfl | h
  · cases hb
  · exact (let_not b (sch_all h b hb)).2.1
theorem schR_hit {s : ByteArray} {n : Nat} (hn : n < s.size) (h : schL ((ls s).take n) = true) (hb : s[n] = 58) : schR (ls s) = .tuple #[.string (bs (lowL ((ls s).take n))), .string (bs ((ls s).drop (n + 1))), .bool true] := by
  have e := take_split s n hn
  rw [hb] at e
  obtain ⟨h1, h2⟩ := bef_app (pre_ok (.inr h)) (b := 58 :: (ls s).drop (n + 1)) _ _ rfl (by simp [isB])
  rw [← e] at h1 h2
  unfold schR
  rw [h1, h2, h, if_pos (by rw [e]; simp [isB])]
  rfl
theorem schR_end {s : ByteArray} (h : s.size = 0 ∨ schL ((ls s).take s.size) = true) : schR (ls s) = .tuple #[.string ⟨#[]⟩, .string ⟨#[]⟩, .bool false] := by
  rw [List.take_of_length_le (by rw [ls_length]; exact Nat.le_refl _)] at h
  have h2 : ls s = [] ∨ schL (ls s) = true := by
    rcases h with h | h
    · left
      exact List.length_eq_zero_iff.1 (by rw [ls_length]; exact h)
    · exact .inr h
  unfold schR
  rw [none_any (pre_ok h2), Bool.false_and, if_neg (by simp)]
theorem schR_bad {s : ByteArray} {n : Nat} (hn : n < s.size) (h : n = 0 ∨ schL ((ls s).take n) = true) (hl : letB s[n] = false) (hf : n = 0 ∨ folB s[n] = false) (hc : n = 0 ∨ s[n] ≠ 58) : schR (ls s) = .tuple #[.string ⟨#[]⟩, .string ⟨#[]⟩, .bool false] := by
  unfold schR
  rw [if_neg ?_]
  intro ha
  rw [Bool.and_eq_true] at ha
  have e := take_split s n hn
  have hpre : ∀ b ∈ (ls s).take n, isB 58 b = false := pre_ok (by
    rcases h with h | h
    · left; rw [h]; rfl
    · exact .inr h)
  by_cases h58 : s[n] = 58
  · have h0 : n = 0 := by
      rcases hc with hc | hc
      · exact hc
      · exact absurd h58 hc
    subst h0
    rw [h58, List.take_zero, List.nil_append] at e
    have hb : befL (isB 58) (ls s) = [] := by
      rw [e]
      unfold befL
      rw [List.takeWhile_cons, if_neg (by simp [isB])]
    rw [hb] at ha
    exact absurd ha.2 (by simp [schL])
  · -- the prefix before the colon reaches beyond n
    have hbf : befL (isB 58) (ls s) = (ls s).take n ++ s[n] :: befL (isB 58) ((ls s).drop (n + 1)) := by
      have hap : ∀ (A B : List UInt8), (∀ b ∈ A, isB 58 b = false) → befL (isB 58) (A ++ B) = A ++ befL (isB 58) B := by
        intro A B hA
        unfold befL
        rw [List.takeWhile_append_of_pos (by intro b hb; rw [hA b hb]; rfl)]
      conv => lhs; rw [e]
      rw [hap _ _ hpre]
      congr 1
      unfold befL
      rw [List.takeWhile_cons, if_pos (by simp [isB, h58])]
    have hk : n < (befL (isB 58) (ls s)).length := by
      rw [hbf, List.length_append, List.length_take, ls_length, List.length_cons]
      omega
    have hat : (befL (isB 58) (ls s))[n] = s[n] := by
      have h3 : ((ls s).take n ++ s[n] :: befL (isB 58) ((ls s).drop (n + 1)))[n]? = some s[n] := by
        rw [List.getElem?_append_right (by rw [List.length_take]; omega), List.length_take, ls_length, Nat.min_eq_left (by omega), Nat.sub_self]
        rfl
      rw [← hbf, List.getElem?_eq_getElem hk] at h3
      exact Option.some.inj h3
    have := sch_bad hk (by rw [hat]; exact hl) (by rw [hat]; exact hf)
    rw [this] at ha
    exact absurd ha.2 (by simp)
theorem let_iff (b : UInt8) : letB b = true ↔ (97 ≤ b.toNat ∧ b.toNat ≤ 122) ∨ (65 ≤ b.toNat ∧ b.toNat ≤ 90) := by
  unfold letB
  simp only [Bool.or_eq_true, Bool.and_eq_true, decide_eq_true_eq]
theorem fol_iff (b : UInt8) : folB b = true ↔ (48 ≤ b.toNat ∧ b.toNat ≤ 57) ∨ b.toNat = 43 ∨ b.toNat = 45 ∨ b.toNat = 46 := by
  have e : ∀ c : UInt8, (b == c) = true ↔ b.toNat = c.toNat := fun c => by rw [beq_iff_eq]; exact UInt8.toNat_inj.symm
  unfold folB
  simp only [Bool.or_eq_true, Bool.and_eq_true, decide_eq_true_eq, e]
  constructor
  · rintro (((h | h) | h) | h)
    · exact .inl h
    · exact .inr (.inl h)
    · exact .inr (.inr (.inl h))
    · exact .inr (.inr (.inr h))
  · rintro (h | h | h | h)
    · exact .inl (.inl (.inl h))
    · exact .inl (.inl (.inr h))
    · exact .inl (.inr h)
    · exact .inr h
set_option maxHeartbeats 2000000 in
theorem refScheme_any (s : ByteArray) (w : World) (hs : s.size ≤ 1000000000) :
    Calls Tryz.prog 62 #[.string s] w fun e w' => e = .returned (schR (ls s)) ∧ Below w.heap.size w w' := by
  go_enter Tryz.func62, Tryz.ntmps62
  go_wp2
  go_loop [5] (fun i => ∃ n : Nat, n ≤ s.size ∧ i = .int .i64 n ∧ Hid (n = 0 ∨ schL ((ls s).take n) = true)) (fun i => s.size - (intOf i).toNat)
  case atStart => exact ⟨0, Nat.zero_le _, rfl, Lib.hid (.inl rfl)⟩
  case round =>
    obtain ⟨n, hn, rfl, HN⟩ := hrel
    by_cases hlt : n < s.size
    · have hsn := sch_snoc ((ls s).take n) s[n]
      rw [← take_ls_succ s n hlt] at hsn
      have hnil : (ls s).take n = [] ↔ n = 0 := by
        rw [List.take_eq_nil_iff]
        constructor
        · rintro (h | h)
          · exact h
          · have := ls_length s; rw [h] at this; simp at this; omega
        · exact .inl
      have hil := let_iff s[n]
      have hif := fol_iff s[n]
      have hbad := fun h1 h2 h3 => schR_bad hlt HN.out h1 h2 h3
      have hhit := fun h1 h2 => schR_hit (n := n) hlt h1 h2
      have h58 : s[n] = 58 ↔ (s[n]).toNat = 58 := by rw [← UInt8.toNat_inj]; rfl
      have hb := byte_lt s[n]
      obtain ⟨y, hy⟩ : ∃ y : Int, y = ((s[n]).toNat : Int) := ⟨_, rfl⟩
      have hy0 : 0 ≤ y := by omega
      rw [← hy] at hb
      have t1 : ((s[n]).toNat : Int) = y := hy.symm
      have hil2 : letB s[n] = true ↔ (97 ≤ y ∧ y ≤ 122) ∨ (65 ≤ y ∧ y ≤ 90) := by rw [hil]; omega
      have hif2 : folB s[n] = true ↔ (48 ≤ y ∧ y ≤ 57) ∨ y = 43 ∨ y = 45 ∨ y = 46 := by rw [hif]; omega
      have h582 : s[n] = 58 ↔ y = 58 := by rw [h58]; omega
      clear hil hif h58 hy
      rw [h582] at hhit
      simp only [ne_eq, h582] at hbad
      clear h582
      by_cases hc : y = 58 ∧ 0 < n
      · have hsc : schL ((ls s).take n) = true := by
          rcases HN.out with h0 | h0
          · omega
          · exact h0
        have HF := Lib.hid (hhit hsc hc.1)
        have hn0 : (0 : Int) < (n : Int) := by omega
        have hq : (y == 58) = true := by rw [hc.1]; rfl
        have cl := fun W => refLower_any (bs ((ls s).take n)) W (by rw [bs_size, List.length_take, ls_length]; omega)
        have ex1 : s.extract 0 n = bs ((ls s).take n) := by rw [← bs_ls (s.extract 0 n), ls_extract]; simp
        have ex2 : s.extract (n + 1) s.size = bs ((ls s).drop (n + 1)) := by rw [← ls_from9, bs_ls]
        rw [← ex1] at cl
        have HX := Lib.hid (show lowS (s.extract 0 n) = bs (lowL ((ls s).take n)) ∧ s.extract (n + 1) s.size = bs ((ls s).drop (n + 1)) by rw [ex1]; exact ⟨rfl, ex2⟩)
        have g1 : (n : Int) + 1 ≤ (s.size : Int) := by omega
        have g2 : n + 1 ≤ s.size := by omega
        have g4 : (0 : Int) ≤ (n : Int) := by omega
        have g5 : (n : Int) ≤ (s.size : Int) := by omega
        have g6 : (0 : Int) ≤ (n : Int) + 1 := by omega
        have g3 : ((n : Int) + 1).toNat = n + 1 := by omega
        clear hsn hnil hil2 hif2 hbad hhit hc hsc ex1 ex2
        have hw1 : IntKind.i64.wrap ((n : Int) + 1) = (n : Int) + 1 := by rw [IntKind.wrap_i64]; omega
        go_wp2_with fail
        go_region_held3 (fun _ => True) (first | trivial | go_keep)
          (first
            | (go_at_call 27
               refine (cl _).mono ?_
               rintro e w5 ⟨rfl, hb5⟩))
        go_wp2
        go_ret3
        refine ⟨?_, ?_⟩
        · rw [HF.out]
          show Ending.returned (.tuple #[.string (lowS (s.extract 0 n)), .string (s.extract (n + 1) s.size), .bool true]) = _
          rw [HX.out.1, HX.out.2]
        · first
            | exact (below_drewN w _).trans (hb5.mono (Nat.le_refl _))
            | exact ((below_drewN w _).trans (hb5.mono (Nat.le_refl _))).trans ((below_drewN w5 _).mono (by have := hb5.size; exact this))
      · by_cases hL : letB s[n] = true
        · have HN2 : Hid (n + 1 = 0 ∨ schL ((ls s).take (n + 1)) = true) := by
            refine Lib.hid (.inr ?_)
            rw [hsn]
            split
            · exact hL
            · rename_i h
              rcases HN.out with h0 | h0
              · exact absurd (hnil.2 h0) h
              · rw [h0, hL]; rfl
          have hr := hil2.1 hL
          clear hsn hnil hL hil2 hif2 hbad hhit hc
          rcases hr with ⟨a1, a2⟩ | ⟨a1, a2⟩
          · have a3 : 48 ≤ y := by omega
            have a4 : ¬ y ≤ 57 := by omega
            have q58 : (y == 58) = false := by rw [beq_eq_false_iff_ne]; omega
            have q43 : (y == 43) = false := by rw [beq_eq_false_iff_ne]; omega
            have q45 : (y == 45) = false := by rw [beq_eq_false_iff_ne]; omega
            have q46 : (y == 46) = false := by rw [beq_eq_false_iff_ne]; omega
            go_wp2
            go_round
            case rel => exact ⟨n + 1, by omega, by go_num, HN2⟩
            case measure => simp [intOf]; omega
          · have a0 : ¬ 97 ≤ y := by omega
            have a3 : 48 ≤ y := by omega
            have a4 : ¬ y ≤ 57 := by omega
            have q58 : (y == 58) = false := by rw [beq_eq_false_iff_ne]; omega
            have q43 : (y == 43) = false := by rw [beq_eq_false_iff_ne]; omega
            have q45 : (y == 45) = false := by rw [beq_eq_false_iff_ne]; omega
            have q46 : (y == 46) = false := by rw [beq_eq_false_iff_ne]; omega
            go_wp2
            go_round
            case rel => exact ⟨n + 1, by omega, by go_num, HN2⟩
            case measure => simp [intOf]; omega
        · have hLf : letB s[n] = false := by simpa using hL
          rw [hil2] at hL
          by_cases hF : folB s[n] = true
          · by_cases h0 : n = 0
            · have HF := Lib.hid (hbad hLf (.inl h0) (.inl h0))
              have hq0 : ((n : Int) == 0) = true := by rw [h0]; rfl
              have hr := hif2.1 hF
              clear hsn hnil hL hil2 hif2 hbad hhit hc h0 hF hLf
              rcases hr with ⟨a1, a2⟩ | rfl | rfl | rfl
              · have b1 : ¬ 97 ≤ y := by omega
                have b2 : ¬ 65 ≤ y := by omega
                have q58 : (y == 58) = false := by rw [beq_eq_false_iff_ne]; omega
                go_wp2
                go_ret3
                exact ⟨by rw [HF.out]; rfl, Below.refl _ _⟩
              · go_wp2
                go_ret3
                exact ⟨by rw [HF.out]; rfl, Below.refl _ _⟩
              · go_wp2
                go_ret3
                exact ⟨by rw [HF.out]; rfl, Below.refl _ _⟩
              · go_wp2
                go_ret3
                exact ⟨by rw [HF.out]; rfl, Below.refl _ _⟩
            · have hq0 : ((n : Int) == 0) = false := by rw [beq_eq_false_iff_ne]; omega
              have HN2 : Hid (n + 1 = 0 ∨ schL ((ls s).take (n + 1)) = true) := by
                refine Lib.hid (.inr ?_)
                rw [hsn, if_neg (fun h => h0 (hnil.1 h))]
                rcases HN.out with h9 | h9
                · exact absurd h9 h0
                · rw [h9, hF]; simp
              have hr := hif2.1 hF
              clear hsn hnil hL hil2 hif2 hbad hhit hc h0 hF hLf
              rcases hr with ⟨a1, a2⟩ | rfl | rfl | rfl
              · have b1 : ¬ 97 ≤ y := by omega
                have b2 : ¬ 65 ≤ y := by omega
                have q58 : (y == 58) = false := by rw [beq_eq_false_iff_ne]; omega
                go_wp2
                go_round
                case rel => exact ⟨n + 1, by omega, by go_num, HN2⟩
                case measure => simp [intOf]; omega
              · go_wp2
                go_round
                case rel => exact ⟨n + 1, by omega, by go_num, HN2⟩
                case measure => simp [intOf]; omega
              · go_wp2
                go_round
                case rel => exact ⟨n + 1, by omega, by go_num, HN2⟩
                case measure => simp [intOf]; omega
              · go_wp2
                go_round
                case rel => exact ⟨n + 1, by omega, by go_num, HN2⟩
                case measure => simp [intOf]; omega
          · have hFf : folB s[n] = false := by simpa using hF
            rw [hif2] at hF
            have HF := Lib.hid (hbad hLf (.inr hFf) (by
              by_cases h0 : n = 0
              · exact .inl h0
              · exact .inr (fun h => hc ⟨h, by omega⟩)))
            clear hsn hnil hil2 hif2 hbad hhit hFf hLf
            by_cases b1 : 122 < y
            · have c1 : 97 ≤ y := by omega
              have c2 : ¬ y ≤ 122 := by omega
              have c3 : 65 ≤ y := by omega
              have c4 : ¬ y ≤ 90 := by omega
              have c5 : 48 ≤ y := by omega
              have c6 : ¬ y ≤ 57 := by omega
              have q58 : (y == 58) = false := by rw [beq_eq_false_iff_ne]; omega
              have q43 : (y == 43) = false := by rw [beq_eq_false_iff_ne]; omega
              have q45 : (y == 45) = false := by rw [beq_eq_false_iff_ne]; omega
              have q46 : (y == 46) = false := by rw [beq_eq_false_iff_ne]; omega
              clear hL hF hc b1
              go_wp2
              go_ret3
              exact ⟨by rw [HF.out]; rfl, Below.refl _ _⟩
            · by_cases b2 : 90 < y
              · have c1 : ¬ 97 ≤ y := by omega
                have c3 : 65 ≤ y := by omega
                have c4 : ¬ y ≤ 90 := by omega
                have c5 : 48 ≤ y := by omega
                have c6 : ¬ y ≤ 57 := by omega
                have q58 : (y == 58) = false := by rw [beq_eq_false_iff_ne]; omega
                have q43 : (y == 43) = false := by rw [beq_eq_false_iff_ne]; omega
                have q45 : (y == 45) = false := by rw [beq_eq_false_iff_ne]; omega
                have q46 : (y == 46) = false := by rw [beq_eq_false_iff_ne]; omega
                clear hL hF hc b1 b2
                go_wp2
                go_ret3
                exact ⟨by rw [HF.out]; rfl, Below.refl _ _⟩
              · by_cases b3 : y = 58
                · have h0 : n = 0 := by omega
                  subst h0
                  clear hL hF hc b1 b2
                  subst b3
                  go_wp2
                  go_ret3
                  exact ⟨by rw [HF.out]; rfl, Below.refl _ _⟩
                · by_cases b4 : 57 < y
                  · have c1 : ¬ 97 ≤ y := by omega
                    have c3 : ¬ 65 ≤ y := by omega
                    have c5 : 48 ≤ y := by omega
                    have c6 : ¬ y ≤ 57 := by omega
                    have q58 : (y == 58) = false := by rw [beq_eq_false_iff_ne]; omega
                    have q43 : (y == 43) = false := by rw [beq_eq_false_iff_ne]; omega
                    have q45 : (y == 45) = false := by rw [beq_eq_false_iff_ne]; omega
                    have q46 : (y == 46) = false := by rw [beq_eq_false_iff_ne]; omega
                    clear hL hF hc b1 b2 b3 b4
                    go_wp2
                    go_ret3
                    exact ⟨by rw [HF.out]; rfl, Below.refl _ _⟩
                  · have c1 : ¬ 97 ≤ y := by omega
                    have c3 : ¬ 65 ≤ y := by omega
                    have c5 : ¬ 48 ≤ y := by omega
                    have q58 : (y == 58) = false := by rw [beq_eq_false_iff_ne]; omega
                    have q43 : (y == 43) = false := by rw [beq_eq_false_iff_ne]; omega
                    have q45 : (y == 45) = false := by rw [beq_eq_false_iff_ne]; omega
                    have q46 : (y == 46) = false := by rw [beq_eq_false_iff_ne]; omega
                    clear hL hF hc b1 b2 b3 b4
                    go_wp2
                    go_ret3
                    exact ⟨by rw [HF.out]; rfl, Below.refl _ _⟩
    · obtain rfl : n = s.size := by omega
      have HF := Lib.hid (schR_end HN.out)
      go_wp2
      go_ret3
      exact ⟨by rw [HF.out]; rfl, Below.refl _ _⟩
end

section
open Go.RowKit Go.Shelf
theorem inS_one (c : UInt8) : inS [c] = isB c := by
  funext b
  unfold inS isB
  rw [Bool.eq_iff_iff]
  simp
theorem inS_end : inS [47, 63, 35] = endA := by
  funext b
  unfold inS endA
  rw [Bool.eq_iff_iff]
  simp [or_assoc]
theorem bef_take (p : UInt8 → Bool) (l : List UInt8) : l.take (befL p l).length = befL p l := by
  have := congrArg (List.take (befL p l).length) (bef_from p l)
  rw [List.take_left] at this
  exact this.symm
theorem from_drop (p : UInt8 → Bool) (l : List UInt8) : l.drop (befL p l).length = fromL p l := by
  have := congrArg (List.drop (befL p l).length) (bef_from p l)
  rw [List.drop_left] at this
  exact this.symm
/-! ### the host and the port of an address -/
theorem cut_some2 {E : List UInt8} {e : Nat} (h : ¬ E.head? = some 91) (he : (befL (isB 58) E).length = e) : cutP E = some (E.take e, E.drop (e + 1)) := by
  unfold cutP
  rw [if_neg h, ← he, bef_take, ← List.drop_drop, from_drop]
theorem cut_some1 {E : List UInt8} {e : Nat} (h : E.head? = some 91) (he : (befL (isB 93) E).length + 1 = e) (hl : e ≤ E.length) (hc : e = E.length ∨ E[e]? = some 58) : cutP E = some (E.take e, E.drop (e + 1)) := by
  unfold cutP
  rw [if_pos h]
  unfold cutB
  have h1 := bef_from (isB 93) E
  have h2 := from_head (isB 93) E
  generalize befL (isB 93) E = B at *
  generalize fromL (isB 93) E = F at *
  subst h1
  subst he
  cases F with
  | nil => simp at hl; omega
  | cons b r =>
    have hb : b = 93 := by simpa [isB] using h2 b r rfl
    subst hb
    have t1 : (B ++ 93 :: r).take (B.length + 1) = B ++ [93] := by
      rw [List.take_append, List.take_of_length_le (by omega), show B.length + 1 - B.length = 1 by omega]
      rfl
    have t2 : (B ++ 93 :: r).drop (B.length + 1 + 1) = r.drop 1 := by
      rw [List.drop_append, List.drop_of_length_le (by omega), show B.length + 1 + 1 - B.length = 2 by omega]
      rfl
    rw [t1, t2]
    cases r with
    | nil => rfl
    | cons c d =>
      have h3 : c = 58 := by
        rcases hc with hc | hc
        · simp at hc
        · rw [List.getElem?_append_right (by omega)] at hc
          simpa using hc
      simp [h3]
theorem cut_none1 {E : List UInt8} (h : E.head? = some 91) (hl : E.length < (befL (isB 93) E).length + 1) : cutP E = none := by
  unfold cutP
  rw [if_pos h]
  unfold cutB
  have h1 := bef_from (isB 93) E
  cases hF : fromL (isB 93) E with
  | nil => rfl
  | cons b r =>
    rw [hF] at h1
    have := congrArg List.length h1
    simp at this
    omega
theorem cut_none2 {E : List UInt8} {e : Nat} {c : UInt8} (h : E.head? = some 91) (he : (befL (isB 93) E).length + 1 = e) (hc : E[e]? = some c) (hn : c ≠ 58) : cutP E = none := by
  unfold cutP
  rw [if_pos h]
  unfold cutB
  have h1 := bef_from (isB 93) E
  generalize befL (isB 93) E = B at *
  generalize fromL (isB 93) E = F at *
  subst h1
  subst he
  rw [List.getElem?_append_right (by omega)] at hc
  cases F with
  | nil => rfl
  | cons b r =>
    cases r with
    | nil => simp at hc
    | cons c' d =>
      have : c' = c := by simpa using hc
      simp [this, hn]
/-! ### the user's end -/
theorem at_hit {A : List UInt8} {i : Nat} (hi : i < A.length) (h64 : A[i] = 64) (hn : ∀ b ∈ A.drop (i + 1), b ≠ 64) : userL A = A.take i ∧ addrL A = A.drop (i + 1) := by
  have e : A = A.take i ++ 64 :: A.drop (i + 1) := by
    conv => lhs; rw [← List.take_append_drop i A, List.drop_eq_getElem_cons hi, h64]
  have hm : 64 ∉ A.drop (i + 1) := fun h => hn 64 h rfl
  have := at_some (u := A.take i) hm
  rwa [← e] at this
theorem at_more {A : List UInt8} {i : Nat} (hi : i < A.length) (h64 : A[i] ≠ 64) (hn : ∀ b ∈ A.drop (i + 1), b ≠ 64) : ∀ b ∈ A.drop i, b ≠ 64 := by
  intro b hb
  rw [List.drop_eq_getElem_cons hi] at hb
  rcases List.mem_cons.1 hb with rfl | hb
  · exact h64
  · exact hn b hb
theorem at_end {A : List UInt8} (hn : ∀ b ∈ A.drop 0, b ≠ 64) : userL A = [] ∧ addrL A = A := at_none (fun h => hn 64 h rfl)
/-! ### the port -/
/-- What the loop over the digits holds. -/
def satV (d : List UInt8) : Nat := min (valB 10 0 d) 1048576
theorem satV_nil : satV [] = 0 := rfl
theorem satV_snoc (d : List UInt8) {c : UInt8} (hc : digitU c = true) : satV (d ++ [c]) = min (satV d * 10 + (c.toNat - 48)) 1048576 := by
  have := (digV_digitU c hc).1
  unfold satV
  rw [valB_append, valB, valB, this]
  omega
theorem port_none {d : List UInt8} {c : UInt8} (std : Int) (hm : c ∈ d) (hc : digitU c = false) : portP d std = none := by
  unfold portP
  rw [if_neg (by rintro rfl; cases hm), if_neg]
  intro h
  rw [List.all_eq_true] at h
  rw [h c hm] at hc
  cases hc
theorem port_big {d : List UInt8} (std : Int) (hd : d ≠ []) (ha : d.all digitU = true) (h : 65535 < satV d) : portP d std = none := by
  unfold satV at h
  unfold portP
  rw [if_neg hd, if_pos ha, if_pos (by omega)]
theorem port_ok {d : List UInt8} (std : Int) (hd : d ≠ []) (ha : d.all digitU = true) (h : ¬ 65535 < satV d) : portP d std = some (if (satV d : Int) = std then -1 else (satV d : Int)) := by
  unfold satV at *
  have e : min (valB 10 0 d) 1048576 = valB 10 0 d := by omega
  unfold portP
  rw [if_neg hd, if_pos ha, e, if_neg (by omega)]
  split <;> rfl
theorem all_snoc9 {d : List UInt8} {c : UInt8} (h : d.all digitU = true) (hc : digitU c = true) : (d ++ [c]).all digitU = true := by
  rw [List.all_append, h]
  simp [hc]
/-! ### cells set one by one -/
def setsA (C : Array Value) : Nat → List Value → Array Value
  | _, [] => C
  | o, v :: r => setsA (C.setIfInBounds o v) (o + 1) r
theorem Row.sets9 {g : Nat} {t : TypeId} : ∀ (vs : List Value) (o : Nat) (w : World) (C : Array Value), Row w g t C → Row (w.setCells g o vs) g t (setsA C o vs)
  | [], _, _, _, h => h
  | _v :: r, o, _w, _C, h => Row.sets9 r (o + 1) _ _ (Row.set9 h)
theorem Row.sets_other {g b : Nat} {t : TypeId} (hne : g ≠ b) {C : Array Value} : ∀ (vs : List Value) (o : Nat) (w : World), Row w g t C → Row (w.setCells b o vs) g t C
  | [], _, _, h => h
  | _v :: r, o, _w, h => Row.sets_other hne r (o + 1) _ (Row.set_other9 h hne)
theorem Below.sets9 {B g : Nat} {w0 : World} (hg : B ≤ g) : ∀ (vs : List Value) (o : Nat) (w : World), Below B w0 w → Below B w0 (w.setCells g o vs)
  | [], _, _, h => h
  | v :: r, o, _w, h => Below.sets9 hg r (o + 1) _ (h.setCell (p := ⟨g, o, none⟩) hg v)
/-- The host within a URL's variable, stored. -/
theorem wpList_store_uhost {ops : Array Oper} {rest : List Oper} {o : Oper} {a : Act} {w : World} {Q : Exit → Act → World → Prop} (hgd : o.guard = none) (hd : o.dst = none) (p x : Operand) (ho : o.op = .store 27 p x)
    (g : Nat) (hp : a.eval p = .pointer (some ⟨g, 2, none⟩)) (H : Array Value) (hx : a.eval x = .agg H) (C : Array Value) (hrow : RowU w g C) (hc : C.size = 15) (hH : H.size = 11) (h1 : H.all (·.oneCell') = true)
    (h : RowU (w.setCells g 2 H.toList) g (setsA C 2 H.toList) → wpList Tryz.prog ops Q rest a (w.setCells g 2 H.toList)) : wpList Tryz.prog ops Q (o :: rest) a w := by
  have ht : w.there g 2 H.size := fun j hj => ⟨by rw [Row.cell hrow (by omega)]; rfl, Row.frozen9 hrow _⟩
  refine wpList_store_mid hgd _ p x ho g 2 H hp hx ht (by rw [hH]; exact hostSize) h1 ?_
  rw [hd]
  exact h (Row.sets9 _ _ _ _ hrow)
end

section
open Go.RowKit
def hexI (b : UInt8) : Int := if digV b < 16 then (digV b : Int) else -1
theorem hexI_int {b : UInt8} {y : Int} (hy : y = (b.toNat : Int)) : hexI b = if 48 ≤ y ∧ y ≤ 57 then y - 48 else if 97 ≤ y ∧ y ≤ 102 then y - 97 + 10 else if 65 ≤ y ∧ y ≤ 70 then y - 65 + 10 else -1 := by
  have hb := b.toNat_lt
  subst hy
  unfold hexI
  by_cases h1 : 48 ≤ b.toNat ∧ b.toNat ≤ 57
  · have e : digV b = b.toNat - 48 := by unfold digV; rw [if_pos h1]
    rw [e, if_pos (show b.toNat - 48 < 16 by omega), if_pos (show (48 : Int) ≤ (b.toNat : Int) ∧ (b.toNat : Int) ≤ 57 from ⟨by omega, by omega⟩)]
    omega
  · rw [if_neg (show ¬ ((48 : Int) ≤ (b.toNat : Int) ∧ (b.toNat : Int) ≤ 57) by omega)]
    by_cases h2 : 97 ≤ b.toNat ∧ b.toNat ≤ 102
    · have e : digV b = b.toNat - 87 := by unfold digV; rw [if_neg h1, if_pos h2]
      rw [e, if_pos (show b.toNat - 87 < 16 by omega), if_pos (show (97 : Int) ≤ (b.toNat : Int) ∧ (b.toNat : Int) ≤ 102 from ⟨by omega, by omega⟩)]
      omega
    · rw [if_neg (show ¬ ((97 : Int) ≤ (b.toNat : Int) ∧ (b.toNat : Int) ≤ 102) by omega)]
      by_cases h3 : 65 ≤ b.toNat ∧ b.toNat ≤ 70
      · have e : digV b = b.toNat - 55 := by unfold digV; rw [if_neg h1, if_neg h2, if_pos h3]
        rw [e, if_pos (show b.toNat - 55 < 16 by omega), if_pos (show (65 : Int) ≤ (b.toNat : Int) ∧ (b.toNat : Int) ≤ 70 from ⟨by omega, by omega⟩)]
        omega
      · have e : digV b = 99 := by unfold digV; rw [if_neg h1, if_neg h2, if_neg h3]
        rw [e, if_neg (show ¬ ((65 : Int) ≤ (b.toNat : Int) ∧ (b.toNat : Int) ≤ 70) by omega), if_neg (by decide)]
set_option maxHeartbeats 1000000 in
theorem refHex14_any (b : UInt8) (w : World) : Calls Tryz.prog 118 #[.int .u8 (b.toNat : Int)] w fun e w' => e = .returned (.int .i64 (hexI b)) ∧ w = w' := by
  obtain ⟨y, hy⟩ : ∃ y : Int, y = (b.toNat : Int) := ⟨_, rfl⟩
  have hb := byte_lt b
  have HH := Lib.hid (hexI_int hy)
  rw [← hy] at hb ⊢
  have h0 : 0 ≤ y := by omega
  clear hy
  by_cases h1 : 48 ≤ y ∧ y ≤ 57
  · have HV : Hid (hexI b = y - 48) := by show _ = _; rw [HH.out, if_pos h1]
    obtain ⟨h2, h3⟩ := h1
    have d1 : decide ((48 : Int) ≤ y) = true := decide_eq_true h2
    have d2 : decide (y ≤ (57 : Int)) = true := decide_eq_true h3
    clear HH
    go_enter Tryz.func118, Tryz.ntmps118
    go_wp2
    go_ret
    exact ⟨ret_int HV.out.symm, rfl⟩
  · by_cases h2 : 97 ≤ y ∧ y ≤ 102
    · have HV : Hid (hexI b = y - 97 + 10) := by show _ = _; rw [HH.out, if_neg h1, if_pos h2]
      obtain ⟨h3, h4⟩ := h2
      have d0 : decide ((48 : Int) ≤ y) = true := decide_eq_true (by omega)
      have d1 : decide (y ≤ (57 : Int)) = false := decide_eq_false (by omega)
      have d2 : decide ((97 : Int) ≤ y) = true := decide_eq_true h3
      have d3 : decide (y ≤ (102 : Int)) = true := decide_eq_true h4
      clear HH h1
      go_enter Tryz.func118, Tryz.ntmps118
      go_wp2
      go_ret
      exact ⟨ret_int HV.out.symm, rfl⟩
    · by_cases h3 : 65 ≤ y ∧ y ≤ 70
      · have HV : Hid (hexI b = y - 65 + 10) := by show _ = _; rw [HH.out, if_neg h1, if_neg h2, if_pos h3]
        obtain ⟨h4, h5⟩ := h3
        have d0 : decide ((48 : Int) ≤ y) = true := decide_eq_true (by omega)
        have d1 : decide (y ≤ (57 : Int)) = false := decide_eq_false (by omega)
        have d2 : decide ((97 : Int) ≤ y) = false := decide_eq_false (by omega)
        have d4 : decide ((65 : Int) ≤ y) = true := decide_eq_true h4
        have d5 : decide (y ≤ (70 : Int)) = true := decide_eq_true h5
        clear HH h1 h2
        go_enter Tryz.func118, Tryz.ntmps118
        go_wp2
        go_ret
        exact ⟨ret_int HV.out.symm, rfl⟩
      · have HV : Hid (hexI b = -1) := by show _ = _; rw [HH.out, if_neg h1, if_neg h2, if_neg h3]
        clear HH
        by_cases a1 : 48 ≤ y
        · by_cases a2 : 97 ≤ y
          · have d0 : decide ((48 : Int) ≤ y) = true := decide_eq_true a1
            have d1 : decide (y ≤ (57 : Int)) = false := decide_eq_false (by omega)
            have d2 : decide ((97 : Int) ≤ y) = true := decide_eq_true a2
            have d3 : decide (y ≤ (102 : Int)) = false := decide_eq_false (by omega)
            have d4 : decide ((65 : Int) ≤ y) = true := decide_eq_true (by omega)
            have d5 : decide (y ≤ (70 : Int)) = false := decide_eq_false (by omega)
            clear h1 h2 h3 a1 a2
            go_enter Tryz.func118, Tryz.ntmps118
            go_wp2
            go_ret
            exact ⟨ret_int HV.out.symm, rfl⟩
          · by_cases a3 : 65 ≤ y
            · have d0 : decide ((48 : Int) ≤ y) = true := decide_eq_true a1
              have d1 : decide (y ≤ (57 : Int)) = false := decide_eq_false (by omega)
              have d2 : decide ((97 : Int) ≤ y) = false := decide_eq_false a2
              have d4 : decide ((65 : Int) ≤ y) = true := decide_eq_true a3
              have d5 : decide (y ≤ (70 : Int)) = false := decide_eq_false (by omega)
              clear h1 h2 h3 a1 a2 a3
              go_enter Tryz.func118, Tryz.ntmps118
              go_wp2
              go_ret
              exact ⟨ret_int HV.out.symm, rfl⟩
            · have d0 : decide ((48 : Int) ≤ y) = true := decide_eq_true a1
              have d1 : decide (y ≤ (57 : Int)) = false := decide_eq_false (by omega)
              have d2 : decide ((97 : Int) ≤ y) = false := decide_eq_false a2
              have d4 : decide ((65 : Int) ≤ y) = false := decide_eq_false a3
              clear h1 h2 h3 a1 a2 a3
              go_enter Tryz.func118, Tryz.ntmps118
              go_wp2
              go_ret
              exact ⟨ret_int HV.out.symm, rfl⟩
        · have d0 : decide ((48 : Int) ≤ y) = false := decide_eq_false a1
          have d2 : decide ((97 : Int) ≤ y) = false := decide_eq_false (by omega)
          have d4 : decide ((65 : Int) ≤ y) = false := decide_eq_false (by omega)
          clear h1 h2 h3 a1
          go_enter Tryz.func118, Tryz.ntmps118
          go_wp2
          go_ret
          exact ⟨ret_int HV.out.symm, rfl⟩
theorem esc_cons2 (a b : UInt8) (r : List UInt8) : escV (a :: b :: r) = if digV a < 16 ∧ digV b < 16 then some (16 * digV a + digV b) else none := by
  unfold escV
  by_cases h : digV a < 16 ∧ digV b < 16
  · rw [if_pos h, if_pos ⟨by simp, h⟩]
    rfl
  · rw [if_neg h, if_neg (fun hh => h hh.2)]
theorem hexI_neg {b : UInt8} (h : ¬ digV b < 16) : hexI b = -1 := by unfold hexI; rw [if_neg h]
theorem hexI_pos {b : UInt8} (h : digV b < 16) : hexI b = (digV b : Int) := by unfold hexI; rw [if_pos h]
end

end Go.Proofs.YtdfacgncphmcoaaGreatDoor
