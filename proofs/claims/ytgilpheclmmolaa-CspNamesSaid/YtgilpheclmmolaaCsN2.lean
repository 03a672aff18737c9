/-
  The walk of CspNames: it returns true.
-/
import Derived.Test.YtgilpheclmmolaaCsY
namespace Go.Proofs.Ytgilpheclmmolaa
open Go.RowKit

theorem par_big {s : ByteArray} (h : 4096 < s.size) : mergeC [ls s] = (cv0, 3) := too_at (vs := [ls s]) (k := 0) (by simp) (by simp [ls_length]; exact h)
theorem par_small {s : ByteArray} (h : s.size ≤ 4096) : (mergeC [ls s]).2 = 0 := by rw [not_too (by simp [ls_length]; exact h)]
theorem name_ne {n : List UInt8} (h : n ≠ []) : ((bs n).toList == ([] : List UInt8)) = false := by
  rw [toList_ls, ls_bs]
  simpa using h
theorem name_bne (n : List UInt8) : ((bs n).toList != (bs n).toList) = false := by simp
theorem name_diff {n m : List UInt8} (h : n ≠ m) : ((bs n).toList == (bs m).toList) = false := by
  rw [toList_ls, toList_ls, ls_bs, ls_bs]
  simpa using h
theorem name_lit (n m : List UInt8) : ((bs n).toList == m) = decide (n = m) := by
  rw [toList_ls, ls_bs, Bool.eq_iff_iff]
  simp
theorem mem_upto {L : List (List UInt8)} {m : Nat} (h : m < L.length) (y : List UInt8) : decide (y ∈ L.take (m + 1)) = (decide (y ∈ L.take m) || decide (L[m] = y)) := by
  rw [mem_step h y]
  congr 1
  rw [Bool.eq_iff_iff, decide_eq_true_iff, decide_eq_true_iff]
  exact eq_comm

theorem name_len {d n : List UInt8} (h : nameD d = some n) : n.length ≤ d.length := by
  cases hw : wordsL d with
  | nil => rw [name_none hw] at h; cases h
  | cons w r =>
    rw [name_some hw] at h
    cases h
    rw [lowL_length]
    exact word_short (by rw [hw]; simp)
theorem namesV_short {v n : List UInt8} (h : n ∈ namesV v) : n.length ≤ v.length := by
  obtain ⟨p, hp, hn⟩ := List.mem_flatMap.1 h
  obtain ⟨d, hd, hn⟩ := List.mem_filterMap.1 hn
  have h1 := name_len hn
  have h2 := splitG_part 59 p [] d hd
  have h3 := splitG_part 44 v [] p hp
  simp at h2 h3
  omega
theorem fold_mem : ∀ (xs l : List (List UInt8)) (n : List UInt8), n ∈ xs.foldl addN l → n ∈ l ∨ n ∈ xs
  | [], l, n, h => .inl h
  | x :: r, l, n, h => by
    rw [List.foldl_cons] at h
    rcases fold_mem r _ n h with h | h
    · unfold addN at h
      split at h
      · exact .inl h
      · rcases List.mem_append.1 h with h | h
        · exact .inl h
        · exact .inr (by simp at h; simp [h])
    · exact .inr (by simp [h])
theorem merge_short {s : ByteArray} (h : s.size ≤ 4096) : ∀ n ∈ (mergeC [ls s]).1.names, n.length ≤ 4096 := by
  intro n hn
  rw [not_too (by simp [ls_length]; exact h)] at hn
  have hn2 : n ∈ (namesV (ls s)).foldl addN [] := by
    rw [List.foldl_cons, List.foldl_nil, addV_names, names_fold] at hn
    exact hn
  rcases fold_mem _ _ _ hn2 with h1 | h1
  · cases h1
  · have := namesV_short h1
    rw [ls_length] at this
    omega

set_option maxRecDepth 20000 in
set_option maxHeartbeats 8000000 in
theorem walkCN (s : ByteArray) (w : World) (hmax : s.size ≤ maxLen) : Calls Try.prog 5 #[.string s] w (Yes w) := by
  have cw := awake20_any
  have c1 := fun W => pPar s W hmax
  by_cases hbig : 4096 < s.size
  · have hd : decide ((4096 : Int) < (s.size : Int)) = true := decide_eq_true (by omega)
    rw [par_big hbig] at c1
    clear hbig hmax
    go_enter Try.func5, Try.ntmps5
    go_wp2_with fail
    refine (c1 _).mono ?_
    rintro e w1 ⟨A1, k1, rfl, hk1, hh1, hb1⟩
    dsimp only [cv0] at hh1
    go_wp2_with (first
      | (refine wpList_alloc_arr _ rfl 3 rfl _ rfl #[.bool false, .bool false, .slice none 0 0] zeroCv ?_; intro W2 p1 hp1 hq1 hR1 hG1)
      | (refine wpList_store_cv rfl rfl _ _ rfl p1 (by exact rfl) false false A1 0 k1 (by exact rfl) _ _ _ _ _ hR1 ?_; intro W3 hr1 hG3
         have hE := VarC.boxed (c := cv0) hh1 hb1 hp1 hG1 hR1 hr1 hG3
         have x2 : W3.cell? ⟨p1, 2, none⟩ = some (.slice A1 0 k1) := (RowCv.cells hE.row).2.2))
    refine (cw _).mono ?_
    rintro e w7 ⟨rfl, hb7⟩
    go_wp2
    go_ret
    exact ⟨rfl, hE.bel.trans (hb7.mono hE.bel.size)⟩
  · have hd : decide ((4096 : Int) < (s.size : Int)) = false := decide_eq_false (by omega)
    have he := par_small (s := s) (by omega)
    have hinv := merge_inv [ls s]
    have hl1 := mer_len (vs := [ls s]) (by simp)
    have hsh := merge_short (s := s) (by omega)
    generalize mergeC [ls s] = R at *
    obtain ⟨⟨L, u, b⟩, e⟩ := R
    dsimp only at he hl1 hinv hsh
    subst he
    obtain ⟨i1, i2, i3, i4⟩ := hinv
    dsimp only at i1 i2 i3 i4
    clear hbig hmax
    have HU := Lib.hid i3
    have HV := Lib.hid i4
    clear i3 i4
    go_enter Try.func5, Try.ntmps5
    go_wp2_with fail
    refine (c1 _).mono ?_
    rintro e w1 ⟨A1, k1, rfl, hk1, hh1, hb1⟩
    dsimp only at hh1
    clear c1
    go_wp2_with (first
      | (refine wpList_alloc_arr _ rfl 3 rfl _ rfl #[.bool false, .bool false, .slice none 0 0] zeroCv ?_; intro W2 p1 hp1 hq1 hR1 hG1)
      | (refine wpList_store_cv rfl rfl _ _ rfl p1 (by exact rfl) u b A1 L.length k1 (by exact rfl) _ _ _ _ _ hR1 ?_; intro W3 hr1 hG3
         have hE := VarC.boxed (c := ⟨L, u, b⟩) hh1 hb1 hp1 hG1 hR1 hr1 hG3
         clear hh1 hb1 hp1 hq1 hR1 hG1 hr1 hG3 hk1))
    go_loopw [5, 6, 7] (fun x y i wr => ∃ (k : Nat) (q1 q2 : Bool), i = .int .i64 k ∧ x = .bool q1 ∧ y = .bool q2 ∧ k ≤ L.length ∧ Hid (q1 = decide (nmU ∈ L.take k)) ∧ Hid (q2 = decide (nmB ∈ L.take k)) ∧ VarC w p1 ⟨L, u, b⟩ A1 k1 wr) (fun _ _ i _ => L.length - (intOf i).toNat)
    case atStart => exact ⟨0, false, false, rfl, rfl, rfl, Nat.zero_le _, Lib.hid (by simp), Lib.hid (by simp), hE⟩
    case round =>
      clear hE
      obtain ⟨k, q1, q2, rfl, rfl, rfl, hk, HQ1, HQ2, hE⟩ := hrel
      have x2 : wr.cell? ⟨p1, 2, none⟩ = some (.slice A1 L.length k1) := (RowCv.cells hE.row).2.2
      by_cases hlt : k < L.length
      · obtain ⟨bn, on, rfl, hc⟩ := str_cell hE.has k hlt
        rw [List.getD_eq_getElem?_getD, List.getElem?_eq_getElem hlt, Option.getD_some] at hc
        obtain ⟨hne, hlow⟩ := i2 L[k] (List.getElem_mem hlt)
        have e1 := name_ne hne
        have e2 := name_bne L[k]
        have eU : ((bs L[k]).toList == [117, 112, 103, 114, 97, 100, 101, 45, 105, 110, 115, 101, 99, 117, 114, 101, 45, 114, 101, 113, 117, 101, 115, 116, 115]) = decide (L[k] = nmU) := name_lit L[k] nmU
        have eB : ((bs L[k]).toList == [98, 108, 111, 99, 107, 45, 97, 108, 108, 45, 109, 105, 120, 101, 100, 45, 99, 111, 110, 116, 101, 110, 116]) = decide (L[k] = nmB) := name_lit L[k] nmB
        have HU1 : Hid (decide (nmU ∈ L.take (k + 1)) = (q1 || decide (L[k] = nmU))) := Lib.hid (by rw [HQ1.out]; exact mem_upto hlt nmU)
        have HB1 : Hid (decide (nmB ∈ L.take (k + 1)) = (q2 || decide (L[k] = nmB))) := Lib.hid (by rw [HQ2.out]; exact mem_upto hlt nmB)
        have cl := fun W => refLower_any (bs L[k]) W (by rw [bs_size]; have := hsh _ (List.getElem_mem hlt); omega)
        have hlw : lowS (bs L[k]) = bs L[k] := by rw [lowS, ls_bs, hlow]
        rw [hlw] at cl
        have hdiff : ∀ m (hm : m < L.length), m < k → ((bs L[m]).toList == (bs L[k]).toList) = false := fun m hm hmk => name_diff fun e => by
          have := (List.getElem_inj i1).1 e
          omega
        have HD := Lib.hid hdiff
        generalize decide (L[k] = nmU) = r1 at *
        generalize decide (L[k] = nmB) = r2 at *
        have HX : Hid (∃ X, X = bs L[k]) := Lib.hid ⟨_, rfl⟩
        obtain ⟨X, hX⟩ := HX.out
        have HD2 : Hid (∀ m (hm : m < L.length), m < k → ((bs L[m]).toList == X.toList) = false) := Lib.hid (by rw [hX]; exact HD.out)
        rw [← hX] at hc e1 e2 eU eB cl
        clear hdiff HD hX HX hlw hne hlow
        go_wp2_with fail
        refine (cl _).mono ?_
        rintro e w5 ⟨rfl, hb5⟩
        have hE5 := hE.call hb5
        have x5 : w5.cell? ⟨p1, 2, none⟩ = some (.slice (some ⟨bn, on, none⟩) L.length k1) := (RowCv.cells hE5.row).2.2
        clear hE hb5 hc x2 cl
        go_wp2
        go_loop [9] (fun j => ∃ m : Nat, j = .int .i64 m ∧ m ≤ k) (fun j => k - (intOf j).toNat)
        case atStart => exact ⟨0, rfl, Nat.zero_le _⟩
        case round =>
          obtain ⟨m, rfl, hm⟩ := hrel
          by_cases hmk : m < k
          · obtain ⟨bn', on', e9, hcm⟩ := str_cell hE5.has m (show m < L.length by omega)
            cases e9
            have hmL : m < L.length := by omega
            rw [List.getD_eq_getElem?_getD, List.getElem?_eq_getElem hmL, Option.getD_some] at hcm
            have e3 := HD2.out m hmL hmk
            go_wp2
            go_round
            case rel => exact ⟨m + 1, by go_num, by omega⟩
            case measure => simp [intOf]; omega
          · obtain rfl : m = k := by omega
            cases q1 <;> cases q2
            all_goals
              go_wp2
              go_roundw
              case rel => exact ⟨m + 1, _, _, by go_num, rfl, rfl, by omega, Lib.hid (by rw [HU1.out]; rfl), Lib.hid (by rw [HB1.out]; rfl), hE5⟩
              case measure => simp [intOf]; omega
      · obtain rfl : k = L.length := by omega
        have hq1 : q1 = u := by rw [HQ1.out, HU.out, List.take_length]
        have hq2 : q2 = b := by rw [HQ2.out, HV.out, List.take_length]
        subst hq1 hq2
        have y0 : wr.cell? ⟨p1, 0, none⟩ = some (.bool q1) := (RowCv.cells hE.row).1
        have y1 : wr.cell? ⟨p1, 1, none⟩ = some (.bool q2) := (RowCv.cells hE.row).2.1
        have e1 : (q1 == q1) = true := by simp
        have e2 : (q2 == q2) = true := by simp
        clear HQ1 HQ2 HU HV
        go_wp2_with fail
        refine (cw _).mono ?_
        rintro e w7 ⟨rfl, hb7⟩
        go_wp2
        go_ret
        exact ⟨rfl, hE.bel.trans (hb7.mono hE.bel.size)⟩

end Go.Proofs.Ytgilpheclmmolaa
